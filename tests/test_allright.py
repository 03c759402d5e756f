"""[4], [10], [11]: fractions told back from readings that are all right."""

import itertools
import random
import unittest
from math import gcd, prod

from things import GREAT_NUMBER, GREAT_PRIMES, anything, anything_with_lists, check_pure, check_refused
from things import all_readings_by, slow_back, slow_primes, slow_readings, slow_within
from toldback.allright import all_back, one_back
from toldback.errors import NoBounds, NoReadings, TooFew
from toldback.rests import is_fraction, not_kept

ELEVEN = [(p, 1) for p in GREAT_PRIMES + [2]]
NO_READINGS = [(), ((3, 1),), [(3, 3)], [(3, -1)], [(3, True)], [(3, 1), (3, 1)], [(4, 1)], [[3, 1]], ELEVEN]
NO_BOUNDS = [[1, 1], (-1, 1), (1, 0), (True, 1), (1, True), (1, -1), (1, 1, 1), (None, 1)]


class OneBack(unittest.TestCase):
    def check_against_slow(self, readings, n, d):
        due = slow_back(readings, n, d)
        self.assertLessEqual(len(due), 1)
        told = one_back(readings, (n, d))
        self.assertEqual(repr(told), repr(due[0] if due else None), (readings, n, d))

    def test_all_readings_by_few_primes(self):
        for primes in [[], [2], [7], [2, 3], [3, 5], [2, 3, 5], [7, 5]]:
            for n, d in itertools.product(range(6), range(1, 8)):
                if prod(primes) > 2 * n * d:
                    for readings in all_readings_by(primes):
                        self.check_against_slow(readings, n, d)

    def test_chance_readings(self):
        chance = random.Random(10)
        primes = slow_primes()[:20]
        for turn in range(300):
            chosen = chance.sample(primes, chance.randint(1, 5))
            n = chance.randint(0, 14)
            d = chance.randint(1, 14)
            readings = [(p, chance.choice([None] + [chance.randrange(p)] * 3)) for p in chosen]
            if prod(chosen) > 2 * n * d:
                self.check_against_slow(readings, n, d)

    def test_each_fraction_comes_back(self):
        for primes in [[2, 3, 5, 7], [211], [13, 17], [11, 2, 3, 5]]:
            for f in slow_within(10, 10):
                self.assertEqual(one_back(slow_readings(f, primes), (10, 10)), f)

    def test_product_just_above_at_and_below(self):
        self.assertEqual(one_back(slow_readings((-3, 5), [31]), (3, 5)), (-3, 5))
        self.assertEqual(one_back(slow_readings((-1, 7), [2, 3, 5]), (2, 7)), (-1, 7))
        for readings in [[(2, 1), (3, 1), (5, 1)], [(29, 1)], [(2, None), (3, 1), (5, None)], [(29, None)]]:
            check_refused(self, TooFew, one_back, readings, (3, 5))
            check_refused(self, TooFew, one_back, readings, (15, 1))
            check_refused(self, TooFew, one_back, readings, (1, 15))
        check_refused(self, TooFew, one_back, [(2, 1)], (1, 1))
        check_refused(self, TooFew, one_back, [], (1, 1))
        self.assertEqual(one_back([(3, 2)], (1, 1)), (-1, 1))

    def test_product_of_great_primes_just_above_at_and_below(self):
        primes = [2] + GREAT_PRIMES[:9]
        half = prod(primes) // 2
        f = (-half + 2, 1)
        check_refused(self, TooFew, one_back, slow_readings(f, primes), (half, 1))
        check_refused(self, TooFew, one_back, slow_readings(f, primes), (half + 1, 1))
        self.assertEqual(one_back(slow_readings(f, primes), (half - 1, 1)), f)
        g = (1, half - 2)
        check_refused(self, TooFew, one_back, slow_readings(g, primes), (1, half))
        self.assertEqual(one_back(slow_readings(g, primes), (1, half - 1)), g)

    def test_readings_with_none(self):
        self.assertEqual(one_back([(2, None), (3, None), (5, 1), (7, 6)], (6, 6)), (1, 6))
        self.assertEqual(one_back([(2, None), (3, None), (5, 1), (7, 5)], (6, 6)), None)
        self.assertEqual(one_back(slow_readings((5, 6), [2, 3, 5, 7]), (6, 6)), (5, 6))
        self.assertEqual(one_back([(101, None)], (1, 50)), None)
        self.assertEqual(one_back([(2, None), (3, None), (101, 0)], (5, 6)), None)
        self.assertEqual(one_back([(p, None) for p in GREAT_PRIMES], (0, 5)), None)
        self.assertEqual(one_back([(101, None), (3, 1)], (50, 3)), None)

    def test_all_none_but_the_bounds_hold_the_product(self):
        f = (1, prod(GREAT_PRIMES[:3]))
        readings = [(p, None) for p in GREAT_PRIMES[:3]] + slow_readings(f, [2, 3])
        self.assertEqual(one_back(readings, (1, f[1] * 2)), f)

    def test_nought(self):
        self.assertEqual(one_back([], (0, 1)), (0, 1))
        self.assertEqual(one_back([], (0, GREAT_NUMBER)), (0, 1))
        self.assertEqual(one_back([(2, 0)], (0, GREAT_NUMBER)), (0, 1))
        self.assertEqual(one_back([(p, 0) for p in GREAT_PRIMES], (0, GREAT_NUMBER)), (0, 1))
        self.assertEqual(one_back([(p, 0) for p in GREAT_PRIMES], (10 ** 14, 10 ** 15)), (0, 1))
        self.assertIsNone(one_back([(2, 1)], (0, GREAT_NUMBER)))
        self.assertIsNone(one_back([(2, None)], (0, GREAT_NUMBER)))
        self.assertIsNone(one_back([(3, 0), (2, None)], (0, 12)))

    def test_no_fraction_keeps_all(self):
        self.assertIsNone(one_back([(7, 2)], (1, 1)))
        self.assertEqual(slow_back([(101, 10)], 5, 9), [])
        self.assertIsNone(one_back([(101, 10)], (5, 9)))

    def test_great_bounds(self):
        chance = random.Random(11)
        bounds = [(10 ** 14, 10 ** 15), (10 ** 15, 10 ** 14), (3, 10 ** 29), (10 ** 29, 3), (1, 3 * 10 ** 29)]
        for n, d in bounds:
            for turn in range(40):
                f = (chance.randint(-n, n), chance.randint(1, d))
                common = gcd(*f)
                f = (f[0] // common, f[1] // common)
                readings = slow_readings(f, chance.sample(GREAT_PRIMES, 10))
                self.assertEqual(one_back(readings, (n, d)), f)

    def test_great_bounds_with_none(self):
        for shared in [997, 991 * 983, 997 * 937 * 941]:
            f = (-123456789012, shared * 1009)
            readings = slow_readings(f, GREAT_PRIMES)
            self.assertIn(None, [rest for p, rest in readings])
            self.assertEqual(one_back(readings, (10 ** 13, 10 ** 13)), f)
            self.assertIsNone(one_back(readings, (10 ** 13, f[1] - 1)))
            self.assertIsNone(one_back(readings, (-f[0] - 1, 10 ** 13)))

    def test_great_chance_readings_fit(self):
        chance = random.Random(12)
        for turn in range(200):
            readings = [(p, chance.randrange(p)) for p in GREAT_PRIMES[:4]]
            told = one_back(readings, (690000, 660000))
            if told is not None:
                self.assertTrue(is_fraction(told))
                self.assertEqual(not_kept(told, readings), [])
                self.assertTrue(abs(told[0]) <= 690000 and told[1] <= 660000)

    def test_bounds_of_thirty_figures_are_too_great(self):
        readings = [(p, 1) for p in GREAT_PRIMES]
        check_refused(self, TooFew, one_back, readings, (GREAT_NUMBER, GREAT_NUMBER))
        check_refused(self, TooFew, one_back, readings, (1, GREAT_NUMBER))
        check_refused(self, TooFew, one_back, readings, (GREAT_NUMBER, 1))

    def test_nothing_is_changed(self):
        check_pure(self, one_back, [(31, 5), (2, None)], (5, 6))

    def test_refusals_in_order(self):
        for thing in anything_with_lists() + NO_READINGS:
            check_refused(self, NoReadings, one_back, thing, (0, 1))
            check_refused(self, NoReadings, one_back, thing, (60, 60))
            check_refused(self, NoReadings, one_back, thing, None)
        for thing in anything() + NO_BOUNDS:
            check_refused(self, NoBounds, one_back, [(31, 1)], thing)
            check_refused(self, NoBounds, one_back, [], thing)
            check_refused(self, NoReadings, one_back, None, thing)


class AllBack(unittest.TestCase):
    def test_no_readings_at_all(self):
        self.assertEqual(all_back([], (0, 1)), [(0, 1)])
        self.assertEqual(all_back([], (7, 9)), slow_within(7, 9))
        self.assertEqual(all_back([], (60, 60)), slow_within(60, 60))

    def test_all_readings_by_few_primes(self):
        for primes in [[2], [3, 2], [2, 5, 3]]:
            for n, d in [(0, 1), (0, 6), (1, 1), (4, 6), (7, 3)]:
                for readings in all_readings_by(primes):
                    self.assertEqual(all_back(readings, (n, d)), slow_back(readings, n, d))

    def test_readings_with_none(self):
        self.assertEqual(all_back([(2, None)], (1, 4)), [(-1, 2), (1, 2), (-1, 4), (1, 4)])
        self.assertEqual(all_back([(2, None), (3, 1)], (1, 4)), [(-1, 2), (1, 4)])
        self.assertEqual(all_back([(5, None)], (3, 4)), [])

    def test_both_sixty(self):
        chance = random.Random(13)
        for turn in range(6):
            primes = chance.sample([2, 3, 5, 7, 11, 997], 3)
            readings = [(p, chance.choice([None, 0, 1])) for p in primes]
            self.assertEqual(all_back(readings, (60, 60)), slow_back(readings, 60, 60))

    def test_ten_readings(self):
        readings = slow_readings((-59, 60), GREAT_PRIMES)
        self.assertEqual(all_back(readings, (60, 60)), [(-59, 60)])
        self.assertEqual(all_back(readings, (58, 60)), [])

    def test_same_as_one_back(self):
        for rest in [None] + list(range(31)):
            one = one_back([(31, rest)], (3, 5))
            self.assertEqual(all_back([(31, rest)], (3, 5)), [] if one is None else [one])

    def test_nothing_is_changed(self):
        check_pure(self, all_back, [(3, 1), (2, None)], (5, 6))
        check_pure(self, all_back, [], (2, 2))

    def test_refusals_in_order(self):
        for thing in anything_with_lists() + NO_READINGS:
            check_refused(self, NoReadings, all_back, thing, (1, 1))
            check_refused(self, NoReadings, all_back, thing, (61, 1))
            check_refused(self, NoReadings, all_back, thing, None)
        for thing in anything() + NO_BOUNDS + [(61, 1), (0, 61), (60, 61), (61, 60), (GREAT_NUMBER, 1)]:
            check_refused(self, NoBounds, all_back, [(31, 1)], thing)
            check_refused(self, NoBounds, all_back, [], thing)


if __name__ == "__main__":
    unittest.main()
