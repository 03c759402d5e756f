"""[2], [3], [5], [6], [7], [8]: fractions, rests, readings and bounds."""

import random
import unittest
from math import gcd

from things import GREAT_NUMBER, GREAT_PRIMES, anything, anything_with_lists, check_pure, check_refused
from things import slow_primes, slow_readings, slow_rest, slow_within
from toldback.errors import NoBounds, NoFraction, NoPrime, NoReadings
from toldback.rests import all_within, how_many_within, is_fraction, is_prime, is_readings
from toldback.rests import not_kept, rest_of, rests_of


class Fractions(unittest.TestCase):
    def test_all_small_pairs(self):
        for top in range(-30, 31):
            for bottom in range(-5, 31):
                due = bottom >= 1 and gcd(top, bottom) == 1
                self.assertIs(is_fraction((top, bottom)), due, (top, bottom))

    def test_bottoms_at_the_edge(self):
        self.assertIs(is_fraction((1, 1)), True)
        self.assertIs(is_fraction((1, 0)), False)
        self.assertIs(is_fraction((1, -1)), False)
        self.assertIs(is_fraction((-1, -1)), False)

    def test_tops_of_nought_and_below(self):
        self.assertIs(is_fraction((0, 1)), True)
        self.assertIs(is_fraction((0, 2)), False)
        self.assertIs(is_fraction((0, GREAT_NUMBER)), False)
        self.assertIs(is_fraction((-3, 2)), True)
        self.assertIs(is_fraction((-4, 2)), False)

    def test_great_numbers(self):
        self.assertIs(is_fraction((GREAT_NUMBER, GREAT_NUMBER - 1)), True)
        self.assertIs(is_fraction((-GREAT_NUMBER, GREAT_NUMBER - 1)), True)
        divisor = 10 ** 14 + 31
        self.assertIs(is_fraction((divisor * 8, divisor * 9)), False)
        self.assertIs(is_fraction((-divisor, divisor)), False)

    def test_anything(self):
        for thing in anything():
            self.assertIs(is_fraction(thing), False, thing)
        for thing in [[1, 2], (1, 2, 3), (True, 1), (1, True), (False, 1), ("1", "2"), ((1, 2), 1)]:
            self.assertIs(is_fraction(thing), False, thing)


class Primes(unittest.TestCase):
    def test_all_below_a_thousand(self):
        primes = slow_primes()
        self.assertEqual(len(primes), 168)
        for number in range(-50, 1000):
            self.assertIs(is_prime(number), number in primes, number)

    def test_edges(self):
        for number in [0, 1, -1, -2, -3, -7, -997, 961, 841, 4, 9, 29 * 31, 998, 999, 1000]:
            self.assertIs(is_prime(number), False, number)
        for number in [2, 3, 31, 991, 997]:
            self.assertIs(is_prime(number), True, number)

    def test_from_a_thousand_on(self):
        for number in list(range(1000, 1100)) + [1009, 7919, 10 ** 9 + 7, GREAT_NUMBER]:
            self.assertIs(is_prime(number), False, number)

    def test_anything(self):
        for thing in anything_with_lists() + [(2, 3), (2,), [2], {2: 3}]:
            self.assertIs(is_prime(thing), False, thing)


class Rests(unittest.TestCase):
    def test_all_small_fractions(self):
        for f in slow_within(12, 12):
            for p in [2, 3, 5, 7, 11, 13, 101]:
                self.assertEqual(repr(rest_of(f, p)), repr(slow_rest(f, p)), (f, p))

    def test_bottom_or_top_divided(self):
        self.assertIsNone(rest_of((1, 6), 2))
        self.assertIsNone(rest_of((-5, 997), 997))
        self.assertEqual(rest_of((0, 1), 2), 0)
        self.assertEqual(rest_of((14, 3), 7), 0)
        self.assertEqual(rest_of((-14, 3), 7), 0)

    def test_tops_below_nought(self):
        self.assertEqual(rest_of((-1, 1), 7), 6)
        self.assertEqual(rest_of((-1, 2), 7), 3)

    def test_great_fractions(self):
        f = (-GREAT_NUMBER, GREAT_NUMBER - 1)
        for p in GREAT_PRIMES + [2, 3, 7]:
            self.assertEqual(repr(rest_of(f, p)), repr(slow_rest(f, p)), p)

    def test_lists_of_primes(self):
        self.assertEqual(rests_of((1, 2), []), [])
        self.assertEqual(rests_of((1, 2), [7, 2, 3, 7, 7]), [4, None, 2, 4, 4])
        many = slow_primes()[:60]
        self.assertEqual(rests_of((-17, 30), many), [slow_rest((-17, 30), p) for p in many])

    def test_lists_somewhat_beyond_sixty(self):
        self.assertEqual(rests_of((1, 1), [2] * 70), [1] * 70)

    def test_nothing_is_changed(self):
        told = check_pure(self, rests_of, (3, 4), [5, 2, 5])
        self.assertEqual(told, [2, None, 2])
        self.assertEqual(check_pure(self, rests_of, (3, 4), []), [])
        check_pure(self, rest_of, (3, 4), 5)

    def test_no_fraction(self):
        for thing in anything() + [(2, 4), (0, 2), [1, 2]]:
            check_refused(self, NoFraction, rest_of, thing, 7)
            check_refused(self, NoFraction, rests_of, thing, [7])
            check_refused(self, NoFraction, rests_of, thing, [])

    def test_no_prime(self):
        for thing in anything_with_lists() + [9, 961, 1009, [2], (2,)]:
            check_refused(self, NoPrime, rest_of, (1, 2), thing)
        for thing in anything_with_lists() + [7, (7,), (), (2, 3), {7: 1}, [7, 1], [1, 7], [7, 1009], "7", range(7, 8)]:
            check_refused(self, NoPrime, rests_of, (1, 2), thing)

    def test_no_fraction_goes_first(self):
        for thing in anything():
            check_refused(self, NoFraction, rest_of, thing, thing)
            check_refused(self, NoFraction, rests_of, thing, thing)
            check_refused(self, NoFraction, rests_of, thing, [7, thing])


class Readings(unittest.TestCase):
    def test_none_ten_eleven(self):
        ten = [(p, 1) for p in GREAT_PRIMES]
        self.assertIs(is_readings([]), True)
        self.assertIs(is_readings(ten), True)
        self.assertIs(is_readings(ten + [(2, 1)]), False)
        self.assertIs(is_readings([(2, None)] + ten), False)
        self.assertIs(is_readings(ten * 6), False)

    def test_rests_at_the_edges(self):
        for p in [2, 3, 7, 997]:
            for rest in [0, 1, p - 1, None]:
                self.assertIs(is_readings([(p, rest)]), True, (p, rest))
            for rest in [p, p + 1, -1, -p, True, False, "0", "-", [0], (), GREAT_NUMBER]:
                self.assertIs(is_readings([(p, rest)]), False, (p, rest))
                self.assertIs(is_readings([(5, 1), (p, rest)]), False, (p, rest))

    def test_a_prime_twice(self):
        self.assertIs(is_readings([(3, 1), (3, 1)]), False)
        self.assertIs(is_readings([(3, 1), (3, None)]), False)
        self.assertIs(is_readings([(3, 1), (5, 1), (3, 2)]), False)
        self.assertIs(is_readings([(2, 1), (3, 1), (5, 1), (7, 2), (2, 0)]), False)
        self.assertIs(is_readings([(5, 1), (3, 1), (2, 1)]), True)

    def test_anything(self):
        for thing in anything_with_lists():
            self.assertIs(is_readings(thing), False, thing)
        others = [((3, 1),), {(3, 1): 1}, (3, 1), [[3, 1]], [(3,)], [(3, 1, 1)], [(4, 1)], [(1, 0)]]
        others += [[(True, 0)], [(0, 0)], [(-3, 1)], [(1009, 1)], [((3, 1), 1)], [(3, (1,))], (), [("3", 1)]]
        for thing in others:
            self.assertIs(is_readings(thing), False, thing)

    def test_places_not_kept(self):
        readings = [(2, None), (3, 2), (5, 3), (7, 4), (11, None)]
        self.assertEqual(not_kept((1, 2), readings), [4])
        self.assertEqual(not_kept((1, 3), readings), [0, 1, 2, 3, 4])
        self.assertEqual(not_kept((1, 2), []), [])
        self.assertEqual(not_kept((0, 1), [(2, 0), (3, None), (5, 0), (7, 1)]), [1, 3])

    def test_places_against_rests(self):
        chance = random.Random(7)
        small = slow_within(9, 9)
        for turn in range(400):
            f = chance.choice(small)
            primes = chance.sample([2, 3, 5, 7, 11, 13], chance.randint(0, 6))
            readings = [(p, chance.choice([None] + list(range(p)))) for p in primes]
            right = slow_readings(f, primes)
            due = [place for place in range(len(primes)) if readings[place] != right[place]]
            self.assertEqual(not_kept(f, readings), due)
            self.assertEqual(not_kept(f, right), [])

    def test_nothing_is_changed(self):
        told = check_pure(self, not_kept, (1, 2), [(3, 1), (2, None), (5, 0)])
        self.assertEqual(told, [0, 2])
        check_pure(self, not_kept, (1, 2), [])
        check_pure(self, is_readings, [(3, 1), (2, None)])

    def test_refusals(self):
        for thing in anything() + [(2, 4)]:
            check_refused(self, NoFraction, not_kept, thing, [(3, 1)])
            check_refused(self, NoFraction, not_kept, thing, [])
            check_refused(self, NoFraction, not_kept, thing, thing)
        eleven = [(p, 1) for p in GREAT_PRIMES + [2]]
        for thing in anything_with_lists() + [(), ((3, 1),), [(3, 3)], [(3, 1), (3, 1)], [(3, True)], eleven]:
            check_refused(self, NoReadings, not_kept, (1, 2), thing)


class Bounds(unittest.TestCase):
    def test_all_small_bounds(self):
        for n in range(0, 9):
            for d in range(1, 9):
                due = slow_within(n, d)
                self.assertEqual(all_within((n, d)), due)
                self.assertEqual(how_many_within((n, d)), len(due))

    def test_edges(self):
        self.assertEqual(all_within((0, 1)), [(0, 1)])
        self.assertEqual(all_within((0, 60)), [(0, 1)])
        self.assertEqual(how_many_within((0, 60)), 1)
        self.assertEqual(all_within((3, 1)), [(top, 1) for top in range(-3, 4)])
        self.assertEqual(how_many_within((60, 1)), 121)
        self.assertEqual(how_many_within((1, 60)), 121)
        self.assertEqual(all_within((60, 60)), slow_within(60, 60))
        self.assertEqual(how_many_within((60, 60)), len(slow_within(60, 60)))

    def test_order(self):
        due = [(-2, 1), (-1, 1), (0, 1), (1, 1), (2, 1), (-1, 2), (1, 2), (-2, 3), (-1, 3), (1, 3), (2, 3)]
        self.assertEqual(all_within((2, 3)), due)

    def test_nothing_is_changed(self):
        check_pure(self, all_within, (2, 3))
        check_pure(self, how_many_within, (2, 3))

    def test_refusals(self):
        others = [(61, 1), (0, 61), (61, 60), (60, 61), (-1, 1), (0, 0), (1, -1), [1, 1], (True, 2), (2, True)]
        others += [(False, 1), (GREAT_NUMBER, 1), (1, GREAT_NUMBER), (1, 1, 1), ((1, 1), 1)]
        for thing in anything() + others:
            check_refused(self, NoBounds, all_within, thing)
            check_refused(self, NoBounds, how_many_within, thing)


if __name__ == "__main__":
    unittest.main()
