"""[9]: readings put together."""

import itertools
import random
import unittest
from math import prod

from things import GREAT_PRIMES, anything_with_lists, check_pure, check_refused
from toldback.errors import NoReadings
from toldback.together import nearest_whole, put_together


def readings_of(number, primes):
    return [(p, number % p) for p in primes]


class Together(unittest.TestCase):
    def test_no_readings(self):
        self.assertEqual(put_together([]), (1, 0))
        self.assertEqual(nearest_whole([]), 0)

    def test_each_rest_in_each_order(self):
        for primes in itertools.permutations([2, 3, 7]):
            for number in range(42):
                told = put_together(readings_of(number, primes))
                self.assertIsInstance(told, tuple)
                self.assertEqual(told, (42, number))
                nearest = number if number <= 21 else number - 42
                self.assertEqual(nearest_whole(readings_of(number, primes)), nearest)

    def test_one_reading(self):
        for p in [2, 3, 997]:
            for w in range(p):
                self.assertEqual(put_together([(p, w)]), (p, w))

    def test_ten_great_primes(self):
        m = prod(GREAT_PRIMES)
        chance = random.Random(9)
        for number in [0, 1, m - 1, m // 2, m // 2 + 1] + [chance.randrange(m) for turn in range(40)]:
            readings = readings_of(number, chance.sample(GREAT_PRIMES, 10))
            self.assertEqual(put_together(readings), (m, number))
            nearest = nearest_whole(readings)
            self.assertEqual((nearest - number) % m, 0)
            self.assertLessEqual(abs(nearest), m // 2)

    def test_just_at_half_of_the_product(self):
        self.assertEqual(nearest_whole([(2, 1)]), 1)
        for primes in [[2, 3], [5, 2], [3, 2, 7], [2] + GREAT_PRIMES[:9]]:
            half = prod(primes) // 2
            self.assertEqual(nearest_whole(readings_of(half, primes)), half)
            self.assertEqual(nearest_whole(readings_of(-half, primes)), half)
            self.assertEqual(nearest_whole(readings_of(half + 1, primes)), 1 - half)
            self.assertEqual(nearest_whole(readings_of(half - 1, primes)), half - 1)
            self.assertEqual(nearest_whole(readings_of(1 - half, primes)), 1 - half)

    def test_either_side_of_half_of_an_odd_product(self):
        for primes in [[3], [3, 5], GREAT_PRIMES]:
            half = prod(primes) // 2
            self.assertEqual(nearest_whole(readings_of(half, primes)), half)
            self.assertEqual(nearest_whole(readings_of(half + 1, primes)), -half)

    def test_nothing_is_changed(self):
        check_pure(self, put_together, [(3, 2), (2, 1)])
        check_pure(self, nearest_whole, [(3, 2), (2, 1)])

    def test_refusals(self):
        others = [[(2, None)], [(2, 1), (3, None)], [(3, None), (2, 1)], [(2, 0), (3, None), (5, 1)], (), ((2, 1),)]
        others += [[(p, 1) for p in GREAT_PRIMES + [2]], [(2, 2)], [(2, 1), (2, 1)], [(4, 1)], [(3, True)]]
        for thing in anything_with_lists() + others:
            check_refused(self, NoReadings, put_together, thing)
            check_refused(self, NoReadings, nearest_whole, thing)


if __name__ == "__main__":
    unittest.main()
