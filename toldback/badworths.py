"""Quotients told back from worths of which some may be wrong."""

from toldback.errors import NoDegrees, NoNumber
from toldback.interpolated import fits_worths, need_degrees, need_enough, only_fitting
from toldback.polys import need_field
from toldback.quotients import MOST_WORTHS, is_quotient_by, need_worths_up_to
from toldback.wholes import is_whole_below

MOST_WRONG = 2
SMALL_PRIME = 7
SMALL_DEGREES = 2


def need_few_wrong(thing):
    """Refuses what is no whole number from 0 to 2."""
    if not is_whole_below(thing, MOST_WRONG + 1):
        raise NoNumber(f"not a whole number from 0 to {MOST_WRONG}")


def quotient_fitting(worths, p, degrees, e):
    """The one quotient within the degrees that keeps all but at most e worths, or None."""
    need_field(p)
    need_worths_up_to(worths, p, MOST_WORTHS)
    need_degrees(degrees)
    need_few_wrong(e)
    need_enough(worths, degrees, e)
    return only_fitting(worths, p, degrees, e)


def need_small(p, degrees):
    """Refuses what is no degrees, and a prime or degrees of which there are too many quotients to go through."""
    need_degrees(degrees)
    if p > SMALL_PRIME or sum(degrees) > SMALL_DEGREES:
        raise NoDegrees(f"more than {SMALL_DEGREES} together, or not by a prime of at most {SMALL_PRIME}")


def numbers_rows(many, p):
    """All lists of so many numbers from 0 to p - 1."""
    rows = [[]]
    for place in range(many):
        rows = [row + [number] for row in rows for number in range(p)]
    return rows


def polys_up_to(degree, p):
    """All polynomials whose degree is at most so much."""
    polys = [[]]
    for many in range(degree + 1):
        polys += [row + [last] for row in numbers_rows(many, p) for last in range(1, p)]
    return polys


def quotients_within(degrees, p):
    """All quotients within the degrees, no two of them with one list."""
    tops, bottoms = polys_up_to(degrees[0], p), polys_up_to(degrees[1], p)
    pairs = [(list(top), list(bottom)) for top in tops for bottom in bottoms]
    return [pair for pair in pairs if is_quotient_by(pair, p)]


def all_quotients(worths, p, degrees, e):
    """All quotients within small degrees by a small prime that keep all but at most e worths, sorted."""
    need_field(p)
    need_worths_up_to(worths, p, MOST_WORTHS)
    need_small(p, degrees)
    need_few_wrong(e)
    return sorted([q for q in quotients_within(degrees, p) if fits_worths(q, worths, p, degrees, e)])
