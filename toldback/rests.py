"""Fractions, their rests by primes, readings and bounds."""

from toldback.errors import NoBounds, NoFraction, NoPrime, NoReadings
from toldback.wholes import common_divisor, inverse, is_whole, is_whole_below

PRIME_LIMIT = 1000
MOST_READINGS = 10
SMALL_BOUND = 60


def is_pair(thing):
    """Whether it is a tuple of two things."""
    return isinstance(thing, tuple) and len(thing) == 2


def is_fraction(thing):
    """Whether it is a fraction (top, bottom)."""
    if not is_pair(thing):
        return False
    top, bottom = thing
    if not is_whole(top) or not is_whole(bottom) or bottom < 1:
        return False
    return common_divisor(top, bottom) == 1


def is_prime(thing):
    """Whether it is a prime below a thousand."""
    if not is_whole(thing) or thing < 2 or thing >= PRIME_LIMIT:
        return False
    divisor = 2
    while divisor * divisor <= thing:
        if thing % divisor == 0:
            return False
        divisor += 1
    return True


def need_fraction(thing):
    """Refuses what is no fraction."""
    if not is_fraction(thing):
        raise NoFraction("not a fraction (top, bottom) in lowest terms")


def need_prime(thing):
    """Refuses what is no prime below a thousand."""
    if not is_prime(thing):
        raise NoPrime("not a prime below a thousand")


def rest_by(f, p):
    """The rest of what is known to be a fraction by what is known to be a prime."""
    top, bottom = f
    if bottom % p == 0:
        return None
    return top * inverse(bottom, p) % p


def rest_of(f, p):
    """The rest of a fraction by a prime, None where the prime divides the bottom."""
    need_fraction(f)
    need_prime(p)
    return rest_by(f, p)


def rests_of(f, primes):
    """The rests of a fraction by each of the primes, in their order."""
    need_fraction(f)
    if not isinstance(primes, list):
        raise NoPrime("not a list of primes")
    for p in primes:
        need_prime(p)
    return [rest_by(f, p) for p in primes]


def is_rest(thing, p):
    """Whether it is a rest by the prime: a number from 0 to p - 1, or None."""
    return thing is None or is_whole_below(thing, p)


def is_reading(thing):
    """Whether it is a reading (p, rest)."""
    return is_pair(thing) and is_prime(thing[0]) and is_rest(thing[1], thing[0])


def is_readings(thing):
    """Whether it is a list of at most ten readings, no prime twice."""
    if not isinstance(thing, list) or len(thing) > MOST_READINGS:
        return False
    if not all(is_reading(reading) for reading in thing):
        return False
    return len({reading[0] for reading in thing}) == len(thing)


def need_readings(thing):
    """Refuses what is no readings."""
    if not is_readings(thing):
        raise NoReadings("not a list of at most ten readings by unlike primes")


def keeps(f, reading):
    """Whether the rest of a fraction is that of the reading."""
    top, bottom = f
    p, rest = reading
    if rest is None:
        return bottom % p == 0
    # A prime that divides the bottom does not divide the top, so it fails here, too.
    return (rest * bottom - top) % p == 0


def keeps_all(f, readings):
    """Whether a fraction keeps each of the readings."""
    return all(keeps(f, reading) for reading in readings)


def not_kept(f, readings):
    """The places of the readings that a fraction does not keep, rising."""
    need_fraction(f)
    need_readings(readings)
    return [place for place, reading in enumerate(readings) if not keeps(f, reading)]


def is_bounds(thing):
    """Whether it is bounds (n, d)."""
    if not is_pair(thing):
        return False
    n, d = thing
    return is_whole(n) and is_whole(d) and n >= 0 and d >= 1


def is_bounds_up_to(thing, most):
    """Whether it is bounds that are both no greater than most."""
    return is_bounds(thing) and thing[0] <= most and thing[1] <= most


def need_bounds(thing):
    """Refuses what is no bounds."""
    if not is_bounds(thing):
        raise NoBounds("not bounds (n, d), n from 0 and d from 1 on")


def need_bounds_up_to(thing, most):
    """Refuses what is no bounds that are both no greater than most."""
    if not is_bounds_up_to(thing, most):
        raise NoBounds(f"not bounds (n, d) of at most {most}")


def is_within(f, bounds):
    """Whether a fraction is within bounds."""
    top, bottom = f
    n, d = bounds
    return -n <= top <= n and bottom <= d


def how_many_within(bounds):
    """How many fractions are within bounds of at most sixty."""
    return len(all_within(bounds))


def all_within(bounds):
    """All fractions within bounds of at most sixty, sorted by bottoms, then tops."""
    need_bounds_up_to(bounds, SMALL_BOUND)
    n, d = bounds
    return [
        (top, bottom)
        for bottom in range(1, d + 1)
        for top in range(-n, n + 1)
        if common_divisor(top, bottom) == 1
    ]
