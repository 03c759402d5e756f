"""[2], [3], [4], [12], [13]: fractions told back from readings of which some may be wrong."""

import itertools
import random
import unittest
from math import gcd, prod

from things import GREAT_NUMBER, GREAT_PRIMES, all_readings_by, anything, anything_with_lists
from things import check_pure, check_refused, slow_fitting, slow_primes, slow_readings, slow_within, slow_wrong
from toldback.errors import NoBounds, NoNumber, NoReadings, TooFew
from toldback.somewrong import shows_fitting, told_fitting

ELEVEN = [(p, 1) for p in GREAT_PRIMES + [2]]
NO_READINGS = [(), ((3, 1),), [(3, 3)], [(3, -1)], [(3, True)], [(3, 1), (3, 1)], [(4, 1)], [[3, 1]], ELEVEN]
NO_BOUNDS = [[1, 1], (-1, 1), (1, 0), (True, 1), (1, True), (1, -1), (1, 1, 1), (None, 1), (1,), ("1", 1)]
NO_NUMBERS = [-1, -GREAT_NUMBER, True, False, None, "1", "", [1], (1,), {}, b"1", [], (), {1: 1}, object()]


def spoiled(readings, places):
    """The readings, those at the places made wrong."""
    return [(p, ((rest or 0) + 1) % p if place in places else rest) for place, (p, rest) in enumerate(readings)]


def lowest(top, bottom):
    common = gcd(top, bottom)
    return (top // common, bottom // common)


class ToldFitting(unittest.TestCase):
    def check_against_slow(self, readings, n, d, e):
        due = slow_fitting(readings, n, d, e)
        told = told_fitting(readings, (n, d), e)
        where = (readings, n, d, e)
        self.assertIsInstance(told, tuple)
        if len(due) < 2:
            word = ["none", "one"][len(due)]
            self.assertEqual(repr(told), repr((word, *due)), where)
        else:
            self.assertEqual((len(told), told[0]), (3, "two"), where)
            self.assertIn(told[1], due, where)
            self.assertIn(told[2], due, where)
            self.assertNotEqual(told[1], told[2], where)
        self.assertIs(shows_fitting(readings, (n, d), e, told), True, where)
        return told

    def test_all_readings_by_few_primes(self):
        for primes in [[], [2], [7], [3, 2], [2, 5, 3]]:
            for n, d in [(0, 1), (0, 5), (1, 1), (1, 2), (2, 1), (3, 4)]:
                for readings in all_readings_by(primes):
                    for e in range(len(primes) + 1):
                        self.check_against_slow(readings, n, d, e)

    def test_none_one_and_two(self):
        readings = [(7, 4), (11, 6), (13, 7)]
        self.assertEqual(told_fitting(readings, (3, 3), 0), ("one", (1, 2)))
        self.assertEqual(told_fitting(readings, (3, 3), 1), ("one", (1, 2)))
        self.assertEqual(told_fitting([(7, 4), (11, 6), (13, 1)], (3, 3), 0), ("none",))
        self.assertEqual(told_fitting([(7, 4), (11, 6), (13, 1)], (3, 3), 1), ("one", (1, 2)))
        told = told_fitting([(7, 4), (11, 1)], (1, 2), 1)
        self.assertEqual(told[0], "two")
        self.assertEqual(sorted(told[1:]), [(1, 1), (1, 2)])

    def test_small_bounds_by_chance(self):
        chance = random.Random(12)
        primes = slow_primes()[:12]
        kinds = set()
        for turn in range(400):
            n, d = chance.randint(0, 9), chance.randint(1, 9)
            f = chance.choice(slow_within(n, d))
            readings = slow_readings(f, chance.sample(primes, chance.randint(0, 6)))
            readings = [(p, chance.choice([rest, rest, rest, None, p - 1])) for p, rest in readings]
            kinds.add(self.check_against_slow(readings, n, d, chance.randint(0, len(readings)))[0])
        self.assertEqual(kinds, {"none", "one", "two"})

    def test_bounds_just_above_sixty_by_chance(self):
        chance = random.Random(13)
        primes = slow_primes()[:30]
        kinds, told_often = [], 0
        for turn in range(400):
            n, d = chance.choice([(61, 1), (61, 2), (1, 61), (2, 61), (0, 61), (61, 3), (70, 1), (1, 70)])
            readings = slow_readings(chance.choice(slow_within(n, d)), chance.sample(primes, chance.randint(2, 6)))
            g = chance.choice(slow_within(n, d))
            readings = [chance.choice([reading, *slow_readings(g, [reading[0]])]) for reading in readings]
            e = chance.randint(0, len(readings) // 2 + 1)
            least = prod(sorted(p for p, rest in readings)[:len(readings) - e])
            if least > 2 * n * d:
                kinds.append(self.check_against_slow(readings, n, d, e)[0])
                told_often += 1
            else:
                check_refused(self, TooFew, told_fitting, readings, (n, d), e)
        self.assertGreater(told_often, 100)
        self.assertEqual(set(kinds), {"none", "one", "two"})

    def test_as_many_wrong_as_readings(self):
        for readings in [[], [(2, 1)], [(2, None), (997, 5)], [(p, 1) for p in GREAT_PRIMES]]:
            e = len(readings)
            self.assertEqual(told_fitting(readings, (0, 1), e), ("one", (0, 1)))
            self.assertEqual(told_fitting(readings, (0, 60), e), ("one", (0, 1)))
            self.assertEqual(told_fitting(readings, (0, 61), e), ("one", (0, 1)))
            self.assertEqual(told_fitting(readings, (0, GREAT_NUMBER), e), ("one", (0, 1)))
            self.assertEqual(told_fitting(readings, (1, 1), e)[0], "two")
            self.assertEqual(told_fitting(readings, (60, 60), e)[0], "two")
            check_refused(self, TooFew, told_fitting, readings, (61, 1), e)
            check_refused(self, TooFew, told_fitting, readings, (1, 61), e)
            for thing in [e + 1, e + 2, GREAT_NUMBER]:
                check_refused(self, NoNumber, told_fitting, readings, (1, 1), thing)

    def test_no_readings_at_all(self):
        self.assertEqual(told_fitting([], (0, 1), 0), ("one", (0, 1)))
        self.assertEqual(told_fitting([], (0, GREAT_NUMBER), 0), ("one", (0, 1)))
        self.assertEqual(told_fitting([], (1, 1), 0)[0], "two")
        check_refused(self, TooFew, told_fitting, [], (1, 61), 0)
        check_refused(self, TooFew, told_fitting, [], (GREAT_NUMBER, GREAT_NUMBER), 0)
        check_refused(self, NoNumber, told_fitting, [], (0, 1), 1)

    def test_top_of_nought(self):
        for d in [1, 60, 61, GREAT_NUMBER]:
            self.assertEqual(told_fitting([(2, 1), (3, 0), (5, 0)], (0, d), 1), ("one", (0, 1)))
            self.assertEqual(told_fitting([(2, 1), (3, 0), (5, 0)], (0, d), 0), ("none",))
            self.assertEqual(told_fitting([(2, None), (3, 2), (5, 0)], (0, d), 1), ("none",))
            self.assertEqual(told_fitting([(2, None), (3, 2), (5, 0)], (0, d), 2), ("one", (0, 1)))

    def test_bounds_of_sixty_and_sixty_one(self):
        self.assertEqual(told_fitting([(2, 1)], (60, 60), 0)[0], "two")
        self.assertEqual(told_fitting([(2, 1)], (60, 60), 1)[0], "two")
        for bounds in [(61, 60), (60, 61), (61, 1), (1, 61), (61, 61)]:
            check_refused(self, TooFew, told_fitting, [(2, 1)], bounds, 0)
            check_refused(self, TooFew, told_fitting, [(997, 1)], bounds, 1)
        self.assertEqual(told_fitting(slow_readings((61, 60), [89, 97]), (61, 60), 0), ("one", (61, 60)))
        self.assertEqual(told_fitting(slow_readings((61, 60), [89, 97]), (60, 60), 0), ("none",))

    def check_edge(self, primes, e, bounds, told):
        """Tells or refuses, whatever the order of the readings and with None among them."""
        for order in itertools.permutations(primes):
            for f in [(1, 1), (0, 1), (-1, 1)]:
                readings = slow_readings(f, order)
                if told:
                    self.check_against_slow(readings, *bounds, e)
                else:
                    check_refused(self, TooFew, told_fitting, readings, bounds, e)
                    check_refused(self, TooFew, told_fitting, [(p, None) for p in order], bounds, e)

    def test_product_just_at_twice_the_bounds(self):
        for bounds in [(61, 1), (1, 61)]:
            self.check_edge([2, 61], 0, bounds, False)
            self.check_edge([2, 61, 67], 1, bounds, False)
            self.check_edge([2, 61, 67, 997], 2, bounds, False)

    def test_product_one_more_and_one_less_than_twice_the_bounds(self):
        for bounds in [(61, 1), (1, 61)]:
            self.check_edge([3, 41], 0, bounds, True)
            self.check_edge([3, 41, 43], 1, bounds, True)
            self.check_edge([3, 41, 997, 43], 2, bounds, True)
        for bounds in [(62, 1), (1, 62), (31, 2)]:
            told = max(bounds) <= 60
            self.check_edge([3, 41], 0, bounds, told)
            self.check_edge([3, 41, 43], 1, bounds, told)
            self.check_edge([3, 41, 997, 43], 2, bounds, told)

    def test_great_edges(self):
        primes = [2] + GREAT_PRIMES[:9]
        for e in range(9):
            half = prod(sorted(primes)[:len(primes) - e]) // 2
            f = (-half + 2, 1)
            readings = slow_readings(f, primes)
            check_refused(self, TooFew, told_fitting, readings, (half, 1), e)
            check_refused(self, TooFew, told_fitting, readings, (half + 1, 1), e)
            self.check_planted(f, readings, half - 1, 1, e)

    def check_planted(self, f, readings, n, d, e):
        """Checks what is told where f is known to fit, and others may."""
        told = told_fitting(readings, (n, d), e)
        self.assertTrue(told == ("one", f) or (len(told), told[0]) == (3, "two"), (told, f))
        self.assertEqual(len(set(told)), len(told))
        for g in told[1:]:
            self.assertLessEqual(slow_wrong(g, readings), e)
            self.assertTrue(abs(g[0]) <= n and g[1] <= d)
        self.assertIs(shows_fitting(readings, (n, d), e, told), True)

    def test_great_bounds_with_wrong_readings(self):
        chance = random.Random(14)
        bounds = [(0, 10 ** 14, 10 ** 14), (1, 10 ** 20, 10 ** 5), (2, 7, 10 ** 21), (3, 10 ** 10, 10 ** 10)]
        for e, n, d in bounds + [(1, 10 ** 11, 10 ** 11), (4, 10 ** 2, 10 ** 3), (2, 10 ** 8, 10 ** 9)]:
            for turn in range(20):
                f = lowest(chance.randint(-n, n), chance.randint(1, d))
                right = slow_readings(f, chance.sample(GREAT_PRIMES, 10))
                for wrong in range(e + 1):
                    readings = spoiled(right, chance.sample(range(10), wrong))
                    self.check_planted(f, readings, n, d, e)

    def test_great_bounds_with_one_wrong_too_many(self):
        f = (-12345, 6787)
        right = slow_readings(f, GREAT_PRIMES)
        readings = spoiled(right, [0, 4, 9])
        self.assertEqual(told_fitting(readings, (10 ** 5, 10 ** 4), 3), ("one", f))
        self.assertEqual(told_fitting(readings, (10 ** 5, 10 ** 4), 2), ("none",))
        self.assertEqual(told_fitting(readings, (12344, 10 ** 4), 3), ("none",))
        self.assertEqual(told_fitting(readings, (10 ** 5, 6786), 3), ("none",))
        self.assertEqual(told_fitting(readings, (12345, 6787), 3), ("one", f))

    def test_great_bounds_that_two_fit(self):
        f, g = (-12345, 6787), (99991, 64)
        readings = slow_readings(f, GREAT_PRIMES[:5]) + slow_readings(g, GREAT_PRIMES[5:])
        told = told_fitting(readings, (10 ** 5, 10 ** 4), 5)
        self.assertEqual((told[0], sorted(told[1:])), ("two", sorted([f, g])))
        self.assertEqual(told_fitting(readings, (10 ** 5, 6786), 5), ("one", g))
        self.assertEqual(told_fitting(readings, (99990, 10 ** 4), 5), ("one", f))
        self.assertEqual(told_fitting(readings, (10 ** 5, 10 ** 4), 4), ("none",))

    def test_great_bounds_with_none(self):
        f = (-10 ** 6 + 1, 997 * 983)
        readings = slow_readings(f, GREAT_PRIMES)
        self.assertEqual([rest for p, rest in readings].count(None), 2)
        self.assertEqual(told_fitting(readings, (10 ** 6, 10 ** 6), 2), ("one", f))
        readings[0] = (997, 5)
        readings[1] = (991, None)
        self.assertEqual(told_fitting(readings, (10 ** 6, 10 ** 6), 2), ("one", f))
        self.assertEqual(told_fitting(readings, (10 ** 6, 10 ** 6), 1), ("none",))

    def test_nothing_is_changed(self):
        check_pure(self, told_fitting, [(3, 1), (2, None)], (5, 6), 1)
        check_pure(self, told_fitting, [(997, 1), (991, None), (983, 7)], (61, 6), 1)
        check_pure(self, told_fitting, [], (5, 6), 0)


class ShowsFitting(unittest.TestCase):
    def test_all_pairs_within_and_somewhat_beyond(self):
        readings, n, d, e = [(7, 4), (3, 1), (5, None)], 3, 3, 2
        fitting = slow_fitting(readings, n, d, e)
        self.assertGreater(len(fitting), 2)
        for f in slow_within(5, 6):
            self.assertIs(shows_fitting(readings, (n, d), e, ("one", f)), False)
            for g in slow_within(5, 6):
                due = f != g and f in fitting and g in fitting
                self.assertIs(shows_fitting(readings, (n, d), e, ("two", f, g)), due, (f, g))
        self.assertIs(shows_fitting(readings, (n, d), e, ("none",)), False)

    def test_where_one_fits(self):
        readings = [(7, 4), (11, 6), (13, 1)]
        for f in slow_within(9, 9):
            self.assertIs(shows_fitting(readings, (3, 3), 1, ("one", f)), f == (1, 2))
            self.assertIs(shows_fitting(readings, (3, 3), 1, ("two", f, (1, 2))), False)
            self.assertIs(shows_fitting(readings, (3, 3), 1, ("two", (1, 2), f)), False)
        self.assertIs(shows_fitting(readings, (3, 3), 1, ("none",)), False)

    def test_where_none_fits(self):
        readings = [(7, 4), (11, 6), (13, 1)]
        self.assertIs(shows_fitting(readings, (3, 3), 0, ("none",)), True)
        for f in slow_within(5, 5):
            self.assertIs(shows_fitting(readings, (3, 3), 0, ("one", f)), False)
            self.assertIs(shows_fitting(readings, (3, 3), 0, ("two", f, (1, 2))), False)

    def test_two_alike(self):
        for f in slow_within(2, 2):
            self.assertIs(shows_fitting([], (2, 2), 0, ("two", f, f)), False)
            self.assertIs(shows_fitting([(3, 1)], (2, 2), 1, ("two", f, f)), False)
        self.assertIs(shows_fitting([], (2, 2), 0, ("two", (1, 2), (1, 1))), True)

    def test_fractions_beyond_the_bounds(self):
        inside = ("two", (2, 1), (-2, 3))
        self.assertIs(shows_fitting([], (2, 3), 0, inside), True)
        for f in [(3, 1), (-3, 1), (1, 4), (GREAT_NUMBER, 1), (1, GREAT_NUMBER)]:
            self.assertIs(shows_fitting([], (2, 3), 0, ("two", f, (1, 1))), False)
            self.assertIs(shows_fitting([], (2, 3), 0, ("two", (1, 1), f)), False)
            self.assertIs(shows_fitting([], (2, 3), 0, ("one", f)), False)

    def test_great_bounds(self):
        f, g = (-12345, 6787), (99991, 64)
        readings = slow_readings(f, GREAT_PRIMES[:5]) + slow_readings(g, GREAT_PRIMES[5:])
        bounds = (10 ** 5, 10 ** 4)
        self.assertIs(shows_fitting(readings, bounds, 5, ("two", f, g)), True)
        self.assertIs(shows_fitting(readings, bounds, 5, ("two", g, f)), True)
        for told in [("two", f, f), ("two", f, (1, 1)), ("one", f), ("one", g), ("none",)]:
            self.assertIs(shows_fitting(readings, bounds, 5, told), False)
        self.assertIs(shows_fitting(readings, (10 ** 5, 6786), 5, ("one", g)), True)
        self.assertIs(shows_fitting(readings, (10 ** 5, 6786), 5, ("two", f, g)), False)
        self.assertIs(shows_fitting(readings, bounds, 4, ("none",)), True)
        self.assertIs(shows_fitting(readings, bounds, 4, ("two", f, g)), False)

    def test_other_things(self):
        f, g = (1, 2), (1, 1)
        others = [("none", f), ("one",), ("one", f, g), ("two",), ("two", f), ("two", f, g, (0, 1)), ("three", f, g)]
        others += [["two", f, g], ("two", [1, 2], g), ("two", f, [1, 1]), ("two", (2, 4), g), ("two", f, (True, 1))]
        others += [("Two", f, g), ("two ", f, g), ("two", (f, g)), ("two", f, None), (f, g), ("", f), (2, f, g)]
        others += [(b"two", f, g), (["two"], f, g), (("two",), f, g), ({}, f, g), (None, f, g), (True, f)]
        others += [("two", f, (2, 2)), ("two", f, (1, 1, 1)), ("two", f, "(1, 1)"), "two", "none", ["none"]]
        for thing in anything_with_lists() + others:
            self.assertIs(shows_fitting([], (2, 2), 0, thing), False, thing)
        for thing in anything() + [("one", (True, 1)), ("one", [1, 1]), ["one", (1, 1)], ("one", (1, True))]:
            self.assertIs(shows_fitting([(7, 1), (11, 1)], (2, 2), 0, thing), False, thing)
            self.assertIs(shows_fitting([(7, 1), (11, 3)], (2, 2), 0, thing), False, thing)
        self.assertIs(shows_fitting([(7, 1), (11, 1)], (2, 2), 0, ("one", (1, 1))), True)

    def test_nothing_is_changed(self):
        check_pure(self, shows_fitting, [(3, 1), (2, None)], (5, 6), 1, ("one", (1, 1)))
        check_pure(self, shows_fitting, [(3, 1), (2, None)], (5, 6), 1, ["two", [1, 1], [1, 2]])


class Refusals(unittest.TestCase):
    def check_both(self, error, readings, bounds, e):
        check_refused(self, error, told_fitting, readings, bounds, e)
        for told in [("none",), ("one", (1, 1)), ("two", (0, 1), (1, 1)), None, (), ["two"], ("two", (1, 1), (1, 1))]:
            check_refused(self, error, shows_fitting, readings, bounds, e, told)

    def test_no_readings(self):
        for thing in anything_with_lists() + NO_READINGS:
            self.check_both(NoReadings, thing, (1, 1), 0)
            self.check_both(NoReadings, thing, (61, 61), 0)
        for thing in NO_READINGS + [None, "text"]:
            for bounds, e in itertools.product([None, (1, 0), (61, 61)], [None, -1, True, 0]):
                self.check_both(NoReadings, thing, bounds, e)

    def test_no_bounds(self):
        for thing in anything() + NO_BOUNDS:
            self.check_both(NoBounds, [(31, 1)], thing, 0)
            self.check_both(NoBounds, [], thing, 1)
            self.check_both(NoBounds, [], thing, None)

    def test_no_number(self):
        for thing in NO_NUMBERS + [3, 4, 10 ** 90]:
            self.check_both(NoNumber, [(31, 1), (2, None)], (1, 1), thing)
            self.check_both(NoNumber, [(31, 1), (2, None)], (61, 61), thing)
            self.check_both(NoNumber, [], (0, 61), thing)

    def test_too_few(self):
        self.check_both(TooFew, [(31, 1), (2, None)], (1, 61), 0)
        self.check_both(TooFew, [(997, 1), (2, None), (3, 1)], (61, 1), 1)
        self.check_both(TooFew, [], (1, 61), 0)
        self.check_both(TooFew, [(p, 1) for p in GREAT_PRIMES], (GREAT_NUMBER, GREAT_NUMBER), 0)


if __name__ == "__main__":
    unittest.main()
