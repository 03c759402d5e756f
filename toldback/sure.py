"""Whether primes are sure: whether no rests by them are fitted by two fractions."""

from toldback.errors import NoPrime
from toldback.rests import all_within, is_fraction, is_prime, is_readings, need_bounds, need_bounds_up_to, rest_by
from toldback.somewrong import fits, need_wrong_up_to
from toldback.wholes import product_of

MOST_PRIMES = 8
MOST_BOUND = 12


def is_rising_primes(thing, most):
    """Whether it is a list of at most so many primes, unlike and rising."""
    if not isinstance(thing, list) or len(thing) > most:
        return False
    return all(is_prime(p) for p in thing) and thing == sorted(set(thing))


def need_rising_primes(thing, most):
    """Refuses what is no list of at most so many primes, unlike and rising."""
    if not is_rising_primes(thing, most):
        raise NoPrime(f"not a rising list of at most {most} unlike primes")


def need_primes_bounds_wrong(primes, bounds, e):
    """Refuses what not_sure can't be asked of."""
    need_rising_primes(primes, MOST_PRIMES)
    need_bounds_up_to(bounds, MOST_BOUND)
    need_wrong_up_to(e, len(primes))


def distance(f, g):
    """The number that a prime divides just where both fractions have the same rest by it."""
    return abs(f[0] * g[1] - g[0] * f[1])


def pairs_by_distance(bounds):
    """For each distance of two unlike fractions within the bounds the first two that have it.

    Which primes tell two fractions apart hangs on their distance alone, so no
    other two are needed.
    """
    pairs = {}
    within = all_within(bounds)
    for place, g in enumerate(within):
        for f in within[:place]:
            pairs.setdefault(distance(f, g), (f, g))
    return pairs


def paper_of(f, g, primes, e):
    """Both fractions with readings that both fit, where at most twice e primes tell them apart."""
    apart = [p for p in primes if distance(f, g) % p != 0]
    # The first e are wrong for f, which leaves at most e that are wrong for g.
    wrong_for_f = apart[:e]
    readings = [(p, rest_by(g if p in wrong_for_f else f, p)) for p in primes]
    return f, g, readings


def paper_from(pairs, primes, e):
    """What shows that the primes are not sure, of these pairs by distance, or None."""
    for number in pairs:
        if len([p for p in primes if number % p != 0]) <= 2 * e:
            f, g = pairs[number]
            return paper_of(f, g, primes, e)
    return None


def not_sure(primes, bounds, e):
    """None where the primes are sure, else (f, g, readings) that shows that they are not."""
    need_primes_bounds_wrong(primes, bounds, e)
    return paper_from(pairs_by_distance(bounds), primes, e)


def is_paper(thing):
    """Whether it is a tuple of two fractions and readings."""
    if not isinstance(thing, tuple) or len(thing) != 3:
        return False
    f, g, readings = thing
    return is_fraction(f) and is_fraction(g) and is_readings(readings)


def shows_not_sure(primes, bounds, e, paper):
    """Whether the tuple (f, g, readings) shows that the primes are not sure."""
    need_primes_bounds_wrong(primes, bounds, e)
    if not is_paper(paper):
        return False
    f, g, readings = paper
    if f == g or [p for p, rest in readings] != primes:
        return False
    return fits(f, readings, bounds, e) and fits(g, readings, bounds, e)


def enough_by_product(primes, bounds, e):
    """Whether the product of any of the primes, twice e left out, is above twice n times d."""
    n, d = bounds
    # The product 1 of none would be above 0 where n is 0, but no primes left over are never enough.
    if 2 * e >= len(primes):
        return False
    least = sorted(primes)[:len(primes) - 2 * e]
    return product_of(least) > 2 * n * d


def sure_by_product(primes, bounds, e):
    """Whether the primes are sure for any bounds by their product alone."""
    need_rising_primes(primes, MOST_PRIMES)
    need_bounds(bounds)
    need_wrong_up_to(e, len(primes))
    return enough_by_product(primes, bounds, e)
