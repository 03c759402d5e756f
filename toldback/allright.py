"""Fractions told back from readings that are all right."""

from toldback.errors import TooFew
from toldback.rests import all_within, is_fraction, is_within, keeps_all, need_bounds, need_readings
from toldback.together import put_together
from toldback.wholes import product_of, short_row


def only_candidate(readings, n):
    """The one tuple (top, bottom) that can be a fraction told back, its top at most n.

    It is the only one where the product of the primes is above twice n times
    the greatest bottom. Where it is a fraction it keeps all readings.
    """
    known = [reading for reading in readings if reading[1] is not None]
    # A prime with the rest None divides the bottom; the top and what is left of
    # the bottom are then the short numbers that the other rests tie together.
    shared = product_of([p for p, rest in readings if rest is None])
    modulus, rest_of_all = put_together(known)
    top, factor = short_row(modulus, rest_of_all * shared % modulus, n)
    if factor < 0:
        return -top, -factor * shared
    return top, factor * shared


def one_back(readings, bounds):
    """The one fraction within the bounds that keeps all readings, or None."""
    need_readings(readings)
    need_bounds(bounds)
    n, d = bounds
    if product_of([p for p, rest in readings]) <= 2 * n * d:
        raise TooFew("the product of the primes is not above twice n times d")
    found = only_candidate(readings, n)
    if is_fraction(found) and is_within(found, bounds):
        return found
    return None


def all_back(readings, bounds):
    """All fractions within bounds of at most sixty that keep all readings, sorted.

    Bounds that are none, or greater, are refused by all_within.
    """
    need_readings(readings)
    return [f for f in all_within(bounds) if keeps_all(f, readings)]
