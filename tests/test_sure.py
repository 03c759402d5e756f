"""[2], [3], [4], [14], [15]: whether primes are sure."""

import itertools
import random
import unittest
from math import prod

from things import GREAT_NUMBER, GREAT_PRIMES, all_readings_by, anything, anything_with_lists
from things import check_pure, check_refused, slow_enough, slow_fitting, slow_primes, slow_rest, slow_within, slow_wrong
from toldback.errors import NoBounds, NoNumber, NoPrime
from toldback.sure import not_sure, shows_not_sure, sure_by_product

EIGHT = [2, 3, 5, 7, 11, 13, 17, 19]
NINE = EIGHT + [23]
NO_PRIMES = [(2, 3), (), [3, 2], [2, 2], [2, 3, 3], [2, 4], [1], [0], [-2], [True], [2, True], [1009], [2, 1000]]
NO_PRIMES += [[2, None], ["2"], [[2]], [(2, 1)], NINE, NINE[1:] + [29], [2, 5, 3], {2: 3}, "23", 2, range(2, 4)]
NO_BOUNDS = [[1, 1], (-1, 1), (1, 0), (True, 1), (1, True), (1, -1), (1, 1, 1), (None, 1), (1,), ("1", 1)]
NO_NUMBERS = [-1, -GREAT_NUMBER, True, False, None, "1", "", [1], (1,), {}, b"1", [], (), {1: 1}, object()]


def slow_sure(primes, n, d, e):
    """Whether no rests by the primes are fitted by two, by trying all rests."""
    return all(len(slow_fitting(readings, n, d, e)) < 2 for readings in all_readings_by(primes))


def slow_sure_by_pairs(primes, n, d, e):
    """Whether no two fractions have unlike rests by at most twice e of the primes."""
    rests = [[slow_rest(f, p) for p in primes] for f in slow_within(n, d)]
    pairs = itertools.combinations(rests, 2)
    return all(sum(a != b for a, b in zip(one, other)) > 2 * e for one, other in pairs)


def chance_primes(chance, most):
    return sorted(chance.sample(slow_primes()[:chance.choice([8, 20, 60])], chance.randint(0, most)))


class NotSure(unittest.TestCase):
    def check_paper(self, primes, n, d, e, paper):
        where = (primes, n, d, e, paper)
        self.assertIsInstance(paper, tuple, where)
        f, g, readings = paper
        self.assertIn(f, slow_within(n, d), where)
        self.assertIn(g, slow_within(n, d), where)
        self.assertNotEqual(f, g, where)
        self.assertIsInstance(readings, list, where)
        self.assertTrue(all(isinstance(reading, tuple) for reading in readings), where)
        self.assertEqual([p for p, rest in readings], primes, where)
        for p, rest in readings:
            self.assertTrue(rest is None or 0 <= rest < p, where)
        self.assertLessEqual(slow_wrong(f, readings), e, where)
        self.assertLessEqual(slow_wrong(g, readings), e, where)
        self.assertIs(shows_not_sure(primes, (n, d), e, paper), True, where)

    def check_told(self, primes, n, d, e, sure):
        told = not_sure(primes, (n, d), e)
        if sure:
            self.assertIsNone(told, (primes, n, d, e))
        else:
            self.check_paper(primes, n, d, e, told)

    def test_all_rests_by_few_primes(self):
        for primes in [[], [2], [3], [7], [2, 3], [3, 5], [5, 7], [2, 3, 5]]:
            for n, d in [(0, 1), (0, 3), (1, 1), (1, 2), (2, 1), (2, 2), (3, 2)]:
                for e in range(len(primes) + 1):
                    self.check_told(primes, n, d, e, slow_sure(primes, n, d, e))

    def test_chance_primes(self):
        chance = random.Random(14)
        sure = 0
        for turn in range(150):
            primes = chance_primes(chance, 8)
            n, d = chance.randint(0, 12), chance.randint(1, 12)
            e = chance.randint(0, min(3, len(primes)))
            due = slow_sure_by_pairs(primes, n, d, e)
            sure += due
            self.check_told(primes, n, d, e, due)
        self.assertTrue(40 < sure < 110, sure)

    def test_great_edges(self):
        for primes in [[293], [997], [281], [263], [241], [2], [2, 3], [2, 139], [7, 41], [2, 131], [3, 89]]:
            self.check_told(primes, 12, 12, 0, slow_sure_by_pairs(primes, 12, 12, 0))
        self.assertIsNone(not_sure([17, 19], (12, 12), 0))
        # 11/12 less -12/11 is 265/132: no two are farther apart, and 5 times 53 is 265.
        self.check_told([5, 53], 12, 12, 0, False)
        self.assertIs(shows_not_sure([5, 53], (12, 12), 0, ((11, 12), (-12, 11), [(5, 3), (53, 23)])), True)

    def test_no_primes(self):
        self.assertIsNone(not_sure([], (0, 1), 0))
        self.assertIsNone(not_sure([], (0, 12), 0))
        self.check_told([], 1, 1, 0, False)
        self.check_told([], 12, 12, 0, False)
        check_refused(self, NoNumber, not_sure, [], (1, 1), 1)

    def test_eight_primes_each_e(self):
        for primes in [EIGHT, sorted(GREAT_PRIMES)[:8]]:
            for e in range(9):
                self.check_told(primes, 12, 12, e, slow_sure_by_pairs(primes, 12, 12, e))
                self.check_told(primes, 0, 12, e, True)
                self.check_told(primes, 1, 1, e, slow_sure_by_pairs(primes, 1, 1, e))

    def test_sure_beyond_the_product(self):
        found = 0
        for primes in itertools.combinations(EIGHT[:5], 2):
            for n, d in [(1, 1), (1, 2), (2, 1), (3, 2), (3, 3)]:
                if not_sure(list(primes), (n, d), 0) is None and prod(primes) <= 2 * n * d:
                    found += 1
                    self.assertTrue(slow_sure(list(primes), n, d, 0))
        self.assertGreater(found, 0)

    def test_sure_where_the_product_says_so(self):
        chance = random.Random(15)
        for turn in range(60):
            primes = chance_primes(chance, 8)
            n, d = chance.randint(0, 12), chance.randint(1, 12)
            e = chance.randint(0, len(primes) // 2)
            if sure_by_product(primes, (n, d), e):
                self.assertIsNone(not_sure(primes, (n, d), e))

    def test_nothing_is_changed(self):
        check_pure(self, not_sure, [2, 3, 5], (3, 4), 1)
        check_pure(self, not_sure, [], (3, 4), 0)
        check_pure(self, not_sure, [97, 101], (3, 4), 0)


class ShowsNotSure(unittest.TestCase):
    primes, bounds, e = [2, 3, 5], (2, 2), 1

    def shows(self, *paper):
        return shows_not_sure(self.primes, self.bounds, self.e, paper)

    def test_all_fractions_and_readings(self):
        fractions = slow_within(3, 3)
        for readings in all_readings_by([2, 3]):
            for e in [0, 1]:
                fitting = slow_fitting(readings, 2, 2, e)
                for f, g in itertools.product(fractions, repeat=2):
                    due = f != g and f in fitting and g in fitting
                    self.assertIs(shows_not_sure([2, 3], (2, 2), e, (f, g, readings)), due, (f, g, readings, e))

    def test_one_paper_spoiled(self):
        paper = ((0, 1), (2, 1), [(2, 0), (3, 0), (5, 2)])
        f, g, readings = paper
        self.assertIs(self.shows(*paper), True)
        self.assertIs(self.shows(g, f, readings), True)
        self.assertIs(self.shows(f, f, readings), False)
        self.assertIs(self.shows(g, g, readings), False)
        self.assertIs(self.shows(f, g, [readings[1], readings[0], readings[2]]), False)
        self.assertIs(self.shows(f, g, readings[::-1]), False)
        self.assertIs(self.shows(f, g, readings[:2]), False)
        self.assertIs(self.shows(f, g, readings[1:]), False)
        self.assertIs(self.shows(f, g, []), False)
        self.assertIs(self.shows(f, g, readings + [(7, 0)]), False)
        self.assertIs(self.shows(f, g, [(2, 0), (3, 0), (7, 2)]), False)
        self.assertIs(self.shows(f, g, [(2, 0), (3, 0), (5, 1)]), False)
        self.assertIs(self.shows(f, g, [(2, 0), (3, 1), (5, 2)]), False)
        self.assertIs(self.shows(f, g, [(2, 0), (3, 2), (5, 0)]), True)
        self.assertIs(shows_not_sure([2, 3, 5], (1, 2), 1, paper), False)
        self.assertIs(shows_not_sure([2, 3, 5], (2, 2), 0, paper), False)
        self.assertIs(shows_not_sure([2, 3], (2, 2), 1, paper), False)
        self.assertIs(shows_not_sure([2, 3, 5, 7], (2, 2), 1, paper), False)
        self.assertIs(shows_not_sure([2, 3, 7], (2, 2), 1, paper), False)

    def test_bounds_of_the_fractions(self):
        readings = [(2, 1), (3, None)]
        self.assertIs(shows_not_sure([2, 3], (5, 3), 0, ((5, 3), (-5, 3), readings)), True)
        self.assertIs(shows_not_sure([2, 3], (4, 3), 0, ((5, 3), (-5, 3), readings)), False)
        self.assertIs(shows_not_sure([2, 3], (5, 2), 0, ((5, 3), (-5, 3), readings)), False)
        self.assertIs(shows_not_sure([2, 3], (5, 3), 0, ((1, 3), (-7, 3), readings)), False)
        self.assertIs(shows_not_sure([2, 3], (5, 3), 0, ((1, 3), (1, 9), readings)), False)

    def test_no_primes(self):
        self.assertIs(shows_not_sure([], (1, 1), 0, ((0, 1), (1, 1), [])), True)
        self.assertIs(shows_not_sure([], (1, 1), 0, ((0, 1), (0, 1), [])), False)
        self.assertIs(shows_not_sure([], (0, 1), 0, ((0, 1), (1, 1), [])), False)
        self.assertIs(shows_not_sure([], (1, 1), 0, ((0, 1), (1, 1), [(2, 0)])), False)

    def test_all_of_them_wrong(self):
        for rest in [None, 0, 1]:
            self.assertIs(shows_not_sure([2], (1, 1), 1, ((0, 1), (1, 1), [(2, rest)])), True)
            self.assertIs(shows_not_sure([2], (1, 1), 0, ((0, 1), (1, 1), [(2, rest)])), False)
            self.assertIs(shows_not_sure([2], (1, 1), 0, ((-1, 1), (1, 1), [(2, rest)])), rest == 1)

    def test_other_things(self):
        f, g, readings = (0, 1), (2, 1), [(2, 0), (3, 0), (5, 2)]
        self.assertIs(self.shows(f, g, readings), True)
        others = [[f, g, readings], (f, g), (f, g, readings, readings), (readings, f, g), (f, readings, g), (f,)]
        others += [([0, 1], g, readings), (f, [2, 1], readings), (f, g, tuple(readings)), (f, g, None), (f, g, {})]
        others += [((0, 2), g, readings), (f, (4, 2), readings), ((False, 1), g, readings), (f, (2, True), readings)]
        others += [(f, g, [[2, 0], [3, 0], [5, 2]]), (f, g, [(2, 0), (3, 0), (5, 5)]), (f, g, [(2, False), *readings[1:]])]
        others += [(f, g, [(2, 0), (3, 0), (5, 2), (5, 2)]), (f, g, [(2, 0), (3, 0), 5]), (f, g, "readings")]
        others += [(f, g, [(2, 0, 0), (3, 0), (5, 2)]), (f, g, [2, 3, 5]), (None, None, None), ((), (), ())]
        for thing in anything_with_lists() + others:
            self.assertIs(shows_not_sure(self.primes, self.bounds, self.e, thing), False, thing)

    def test_nothing_is_changed(self):
        check_pure(self, shows_not_sure, [2, 3], (2, 2), 1, ((0, 1), (2, 1), [(2, 0), (3, 0)]))


class SureByProduct(unittest.TestCase):
    def test_chance_primes(self):
        chance = random.Random(16)
        found = []
        for turn in range(600):
            primes = chance_primes(chance, 8)
            e = chance.randint(0, min(len(primes), chance.choice([1, 2, 8])))
            n, d = chance.choice([0, 1, 7, 100, 10 ** 6]), chance.choice([1, 3, 50, 10 ** 7])
            due = slow_enough(primes, n, d, e)
            found.append(due)
            self.assertIs(sure_by_product(primes, (n, d), e), due, (primes, n, d, e))
        self.assertTrue(150 < sum(found) < 450, sum(found))

    def test_just_at_one_more_and_one_less(self):
        for n, d in [(15, 1), (1, 15), (5, 3)]:
            self.assertIs(sure_by_product([2, 3, 5], (n, d), 0), False)
            self.assertIs(sure_by_product([29], (n, d), 0), False)
            self.assertIs(sure_by_product([31], (n, d), 0), True)
            self.assertIs(sure_by_product([2, 3, 5, 7, 11], (n, d), 1), False)
            self.assertIs(sure_by_product([29, 31, 37], (n, d), 1), False)
            self.assertIs(sure_by_product([31, 37, 41], (n, d), 1), True)
            self.assertIs(sure_by_product([31, 37, 41, 43, 47], (n, d), 2), True)
            self.assertIs(sure_by_product([29, 37, 41, 43, 47], (n, d), 2), False)
        self.assertIs(sure_by_product([2, 3, 5], (14, 1), 0), True)
        self.assertIs(sure_by_product([3, 5], (7, 1), 0), True)
        self.assertIs(sure_by_product([3, 5], (8, 1), 0), False)

    def test_great_bounds(self):
        primes = sorted(GREAT_PRIMES)[:8]
        for e in range(4):
            least = prod(primes[:8 - 2 * e])
            self.assertEqual(least % 2, 1)
            self.assertIs(sure_by_product(primes, (least // 2, 1), e), True)
            self.assertIs(sure_by_product(primes, (1, least // 2), e), True)
            self.assertIs(sure_by_product(primes, (least // 2 + 1, 1), e), False)
            self.assertIs(sure_by_product(primes, (1, least // 2 + 1), e), False)
        self.assertIs(sure_by_product(primes, (GREAT_NUMBER, GREAT_NUMBER), 0), False)
        self.assertIs(sure_by_product([2] + primes[:7], (prod(primes[:7]), 1), 0), False)
        self.assertIs(sure_by_product([2] + primes[:7], (prod(primes[:7]) - 1, 1), 0), True)

    def test_top_of_nought(self):
        for d in [1, 12, 13, GREAT_NUMBER]:
            self.assertIs(sure_by_product([2], (0, d), 0), True)
            self.assertIs(sure_by_product([2, 3, 5], (0, d), 1), True)
            self.assertIs(sure_by_product([], (0, d), 0), False)
            self.assertIs(sure_by_product([2, 3], (0, d), 1), False)
            self.assertIs(sure_by_product([2], (0, d), 1), False)

    def test_each_e(self):
        for many in range(9):
            primes = sorted(GREAT_PRIMES)[:many]
            for e in range(many + 1):
                self.assertIs(sure_by_product(primes, (0, 1), e), 2 * e < many)
                self.assertIs(sure_by_product(primes, (1, 1), e), 2 * e < many)
                self.assertIs(sure_by_product(primes, (1000, 1), e), 2 * e < many - 1)
            check_refused(self, NoNumber, sure_by_product, primes, (1, 1), many + 1)

    def test_nothing_is_changed(self):
        check_pure(self, sure_by_product, [2, 3, 5], (3, 4), 1)


class Refusals(unittest.TestCase):
    paper = ((0, 1), (1, 1), [])

    def check_all(self, error, primes, bounds, e):
        check_refused(self, error, not_sure, primes, bounds, e)
        check_refused(self, error, sure_by_product, primes, bounds, e)
        for paper in [self.paper, None, (), ["paper"]]:
            check_refused(self, error, shows_not_sure, primes, bounds, e, paper)

    def test_no_prime(self):
        for thing in [thing for thing in anything_with_lists() if thing != [2]] + NO_PRIMES:
            self.check_all(NoPrime, thing, (1, 1), 0)
        for thing in NO_PRIMES + [None, "text"]:
            for bounds, e in itertools.product([None, (1, 0), (13, 13)], [None, -1, True, 9]):
                self.check_all(NoPrime, thing, bounds, e)

    def test_eight_primes_and_nine(self):
        self.assertIsNotNone(not_sure(EIGHT, (1, 1), 4))
        self.assertIs(sure_by_product(EIGHT, (1, 1), 0), True)
        self.assertIs(shows_not_sure(EIGHT, (1, 1), 0, self.paper), False)
        self.check_all(NoPrime, NINE, (1, 1), 0)

    def test_no_bounds(self):
        for thing in anything() + NO_BOUNDS:
            self.check_all(NoBounds, [2, 3], thing, 0)
            self.check_all(NoBounds, [2, 3], thing, 3)
            self.check_all(NoBounds, [], thing, None)

    def test_bounds_of_twelve_and_thirteen(self):
        for bounds in [(12, 12), (0, 12), (12, 1)]:
            self.assertIsNone(not_sure([997], bounds, 0))
            self.assertIs(shows_not_sure([997], bounds, 0, self.paper), False)
        for bounds in [(13, 12), (12, 13), (13, 1), (0, 13), (GREAT_NUMBER, 1), (1, GREAT_NUMBER)]:
            check_refused(self, NoBounds, not_sure, [997], bounds, 0)
            check_refused(self, NoBounds, shows_not_sure, [997], bounds, 0, self.paper)
            check_refused(self, NoBounds, not_sure, [997], bounds, 2)
            self.assertIs(sure_by_product([997], bounds, 0), 997 > 2 * bounds[0] * bounds[1])

    def test_no_number(self):
        for thing in NO_NUMBERS + [3, 4, 10 ** 90]:
            self.check_all(NoNumber, [2, 3], (1, 1), thing)
            self.check_all(NoNumber, [], (0, 12), thing)
        self.check_all(NoNumber, [], (1, 1), 1)
        self.check_all(NoNumber, EIGHT, (1, 1), 9)


if __name__ == "__main__":
    unittest.main()
