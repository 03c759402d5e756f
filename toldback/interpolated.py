"""Quotients told back from worths that are all right."""

from toldback.errors import NoDegrees, TooFew
from toldback.polys import added, need_field, parted, product_by, scaled, worth_at
from toldback.quotients import MOST_WORTHS, lowest, need_worths_up_to, places_not_kept
from toldback.rests import is_pair
from toldback.wholes import inverse, is_whole_below

MOST_DEGREE = 4
MOST_WORTHS_OF_LEAST = 8


def is_degrees(thing):
    """Whether it is degrees (a, b), each from 0 to 4."""
    if not is_pair(thing):
        return False
    return is_whole_below(thing[0], MOST_DEGREE + 1) and is_whole_below(thing[1], MOST_DEGREE + 1)


def need_degrees(thing):
    """Refuses what is no degrees."""
    if not is_degrees(thing):
        raise NoDegrees(f"not degrees (a, b), each from 0 to {MOST_DEGREE}")


def places_wanted(degrees, e):
    """How many worths, at most e of them wrong, no two quotients within the degrees fit."""
    a, b = degrees
    return a + b + 1 + 2 * e


def need_enough(worths, degrees, e):
    """Refuses fewer worths than are wanted."""
    wanted = places_wanted(degrees, e)
    if len(worths) < wanted:
        raise TooFew(f"fewer worths than the {wanted} that are wanted")


def fits_worths(q, worths, p, degrees, e):
    """Whether a quotient is within the degrees and keeps all but at most e worths."""
    top, bottom = q
    a, b = degrees
    if len(top) > a + 1 or len(bottom) > b + 1:
        return False
    return len(places_not_kept(q, p, worths)) <= e


def zero_at(places, p):
    """The product of x less each of the places."""
    poly = [1]
    for x in places:
        poly = product_by(poly, [-x % p, 1], p)
    return poly


def through(worths, p):
    """The polynomial of the least degree that has these worths, none of them None."""
    poly, modulus = [], [1]
    for x, w in worths:
        steps = (w - worth_at(poly, p, x)) * inverse(worth_at(modulus, p, x), p) % p
        poly = added(poly, scaled(modulus, steps, p), p)
        modulus = product_by(modulus, [-x % p, 1], p)
    return poly


def short_poly_row(modulus, poly, most, p):
    """The first rest of Euclid's steps whose degree is at most `most`, and its factor.

    The modulus divides the factor times the polynomial less the rest. The
    polynomial is of a lesser degree than the modulus, so the factor is never nought.
    """
    above, left = modulus, poly
    factor_above, factor = [], [1]
    while len(left) > most + 1:
        quotient, rest = parted(above, left, p)
        above, left = left, rest
        taken = scaled(product_by(quotient, factor, p), -1, p)
        factor_above, factor = factor, added(factor_above, taken, p)
    return left, factor


def tied_together(worths, p):
    """The tuple (shared, modulus, poly), by which worths tie the tops and bottoms that keep them.

    The worths None ask for a bottom that shared divides. Of the others the modulus
    is nought at the places, and poly is the top they ask for beside that bottom.
    """
    shared = zero_at([x for x, w in worths if w is None], p)
    others = [(x, w * worth_at(shared, p, x) % p) for x, w in worths if w is not None]
    return shared, zero_at([x for x, w in others], p), through(others, p)


def quotient_candidate(worths, p, most):
    """The only quotient that can be told back, most its top's degree and how many are wrong together.

    Top and bottom, both times what is nought at the wrong places, are the short
    polynomials that the worths tie together, as with a fraction and its rests.
    """
    shared, modulus, poly = tied_together(worths, p)
    top, factor = short_poly_row(modulus, poly, most, p)
    return lowest(top, product_by(factor, shared, p), p)


def only_fitting(worths, p, degrees, e):
    """The one quotient that fits, or None, where there are as many worths as are wanted."""
    found = quotient_candidate(worths, p, degrees[0] + e)
    if fits_worths(found, worths, p, degrees, e):
        return found
    return None


def one_quotient(worths, p, degrees):
    """The one quotient within the degrees that keeps all worths, or None."""
    need_field(p)
    need_worths_up_to(worths, p, MOST_WORTHS)
    need_degrees(degrees)
    need_enough(worths, degrees, 0)
    return only_fitting(worths, p, degrees, 0)


def with_each_pole_once(worths, p):
    """A quotient that keeps all worths, where none does whose degrees together are fewer than the worths.

    Its bottom is nought at the places of None alone, at each of them once, so no
    bottom is of a lesser degree; together its degrees are as many as the worths.
    """
    shared, modulus, poly = tied_together(worths, p)
    poles = [x for x, w in worths if w is None]
    # A top that is nought at a pole has a common divisor with the bottom, so each pole bars one factor.
    barred = [-worth_at(poly, p, x) * inverse(worth_at(modulus, p, x), p) % p for x in poles]
    # One is left: the poles are fewer than p, or there are no other worths and each of them bars 0.
    factor = min([number for number in range(p) if number not in barred])
    return added(poly, scaled(modulus, factor, p), p), shared


def own_degrees(q):
    """The degrees of the top and the bottom of a quotient, 0 for that of nought."""
    top, bottom = q
    return max(0, len(top) - 1), len(bottom) - 1


def least_quotient(worths, p):
    """The tuple (degrees, quotient) of the least degrees with which a quotient keeps all of at most eight worths."""
    need_field(p)
    need_worths_up_to(worths, p, MOST_WORTHS_OF_LEAST)
    for together in range(len(worths)):
        for b in range(together + 1):
            found = only_fitting(worths, p, (together - b, b), 0)
            if found is not None:
                return own_degrees(found), found
    found = with_each_pole_once(worths, p)
    return own_degrees(found), found
