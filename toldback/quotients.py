"""Quotients of two polynomials by a prime, and their worths at places."""

from toldback.errors import NoQuotient, NoWorths
from toldback.polys import common_poly, is_poly_by, need_divisor, need_field, need_place, need_two_polys
from toldback.polys import parted, scaled, worth_at
from toldback.rests import is_pair, is_rest
from toldback.wholes import inverse, is_whole_below

MOST_WORTHS = 12


def is_quotient_by(thing, p):
    """Whether it is a quotient by what is known to be a prime."""
    if not is_pair(thing):
        return False
    top, bottom = thing
    if not is_poly_by(top, p) or not is_poly_by(bottom, p) or bottom[-1:] != [1]:
        return False
    return common_poly(top, bottom, p) == [1]


def is_quotient(thing, p):
    """Whether it is a quotient (top, bottom) by the prime."""
    need_field(p)
    return is_quotient_by(thing, p)


def need_quotient(thing, p):
    """Refuses what is no quotient by the prime."""
    if not is_quotient_by(thing, p):
        raise NoQuotient("not a quotient (top, bottom) without a common divisor, the bottom's last number 1")


def lowest(one, other, p):
    """The quotient of what are known to be polynomials, the other one not nought."""
    shared = common_poly(one, other, p)
    top, no_rest_of_one = parted(one, shared, p)
    bottom, no_rest_of_other = parted(other, shared, p)
    back = inverse(bottom[-1], p)
    return scaled(top, back, p), scaled(bottom, back, p)


def quotient_of(one, other, p):
    """The quotient (top, bottom) of two polynomials, the second not nought."""
    need_two_polys(one, other, p)
    need_divisor(other)
    return lowest(one, other, p)


def worth_of(q, p, x):
    """The worth of what is known to be a quotient at what is known to be a place."""
    top, bottom = q
    below = worth_at(bottom, p, x)
    if below == 0:
        return None
    return worth_at(top, p, x) * inverse(below, p) % p


def quotient_worth(q, p, x):
    """The worth of a quotient at a place, None where the bottom's is 0."""
    need_field(p)
    need_quotient(q, p)
    need_place(x, p)
    return worth_of(q, p, x)


def is_worth_at_place(thing, p):
    """Whether it is a tuple (x, w) of a place and a worth."""
    return is_pair(thing) and is_whole_below(thing[0], p) and is_rest(thing[1], p)


def is_worths_up_to(thing, p, most):
    """Whether it is worths by what is known to be a prime, no more than so many."""
    if not isinstance(thing, list) or len(thing) > most:
        return False
    if not all(is_worth_at_place(pair, p) for pair in thing):
        return False
    return len({pair[0] for pair in thing}) == len(thing)


def is_worths(thing, p):
    """Whether it is a list of at most twelve worths, no place twice."""
    need_field(p)
    return is_worths_up_to(thing, p, MOST_WORTHS)


def need_worths_up_to(thing, p, most):
    """Refuses what is no worths, and more than so many."""
    if not is_worths_up_to(thing, p, most):
        raise NoWorths(f"not a list of at most {most} worths at unlike places")


def places_not_kept(q, p, worths):
    """The places in the list that what is known to be a quotient does not keep, rising."""
    return [place for place, (x, w) in enumerate(worths) if worth_of(q, p, x) != w]


def worths_not_kept(q, p, worths):
    """The places in the list of worths that a quotient does not keep, rising."""
    need_field(p)
    need_quotient(q, p)
    need_worths_up_to(worths, p, MOST_WORTHS)
    return places_not_kept(q, p, worths)
