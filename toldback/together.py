"""Readings put together into one rest by the product of their primes."""

from toldback.errors import NoReadings
from toldback.rests import need_readings
from toldback.wholes import inverse


def put_together(readings):
    """The tuple (m, w): m the product of the primes, w the rest by it."""
    need_readings(readings)
    if any(rest is None for p, rest in readings):
        raise NoReadings("a reading without a rest can't be put together")
    m, w = 1, 0
    for p, rest in readings:
        steps = (rest - w) * inverse(m, p) % p
        w += m * steps
        m *= p
    return m, w


def nearest_whole(readings):
    """The whole number nearest to 0 that has these rests, of two the greater one."""
    m, w = put_together(readings)
    if 2 * w > m:
        return w - m
    return w
