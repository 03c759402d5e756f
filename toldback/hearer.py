"""Readings that come step by step, and are taken back."""

from toldback.errors import NoNumber, NoPrime, NoReadings, TooMany
from toldback.rests import MOST_READINGS, SMALL_BOUND, is_prime, is_rest, need_bounds_up_to
from toldback.somewrong import fitting_small, need_wrong
from toldback.sure import enough_by_product

MOST_MORE = 30


def is_unlike_primes(thing, most):
    """Whether it is a list of at most so many unlike primes, in whatever order."""
    if not isinstance(thing, list) or len(thing) > most:
        return False
    return all(is_prime(p) for p in thing) and len(set(thing)) == len(thing)


class Hearer:
    """Hears readings of a fraction within the bounds, at most e of them wrong."""

    def __init__(self, bounds, e):
        need_bounds_up_to(bounds, SMALL_BOUND)
        need_wrong(e)
        self.bounds = bounds
        self.most_wrong = e
        self.readings = []

    def primes_that_came(self):
        """The primes of the readings, in the order in which they came."""
        return [p for p, rest in self.readings]

    def hear(self, p, rest):
        """A reading comes."""
        if len(self.readings) == MOST_READINGS:
            raise TooMany(f"{MOST_READINGS} readings came already")
        if not is_prime(p):
            raise NoPrime("not a prime below a thousand")
        if p in self.primes_that_came():
            raise NoPrime("the prime came already")
        if not is_rest(rest, p):
            raise NoReadings("not a rest by the prime")
        self.readings.append((p, rest))

    def back(self):
        """The last reading is taken back."""
        if len(self.readings) == 0:
            raise NoNumber("there is no reading to take back")
        self.readings.pop()

    def heard(self):
        """The readings in the order in which they came."""
        return list(self.readings)

    def how_many(self):
        """How many fractions fit."""
        return len(self.all_fitting())

    def all_fitting(self):
        """All fractions that fit, sorted by bottoms, then tops."""
        return fitting_small(self.readings, self.bounds, self.most_wrong)

    def the_one(self):
        """The one fraction that fits, or None where none or several do."""
        found = self.all_fitting()
        if len(found) == 1:
            return found[0]
        return None

    def how_many_more(self, primes):
        """The least number of these primes that, with those that came, are sure by the product; or None."""
        came = self.primes_that_came()
        if not is_unlike_primes(primes, MOST_MORE) or any(p in came for p in primes):
            raise NoPrime(f"not a list of at most {MOST_MORE} unlike primes that have not come")
        # No so many others have a greater product, whichever are left out, than the greatest.
        greatest_first = sorted(primes, reverse=True)
        for many in range(len(primes) + 1):
            if enough_by_product(came + greatest_first[:many], self.bounds, self.most_wrong):
                return many
        return None
