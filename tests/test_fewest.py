"""[2], [3], [4], [16], [17]: the fewest primes that must be asked."""

import itertools
import random
import unittest
from math import prod

from things import GREAT_NUMBER, GREAT_PRIMES, anything, anything_with_lists
from things import check_pure, check_refused, slow_enough, slow_primes, slow_rest, slow_within, slow_wrong
from toldback.errors import NoBounds, NoNumber, NoPrime
from toldback.fewest import fewest_asks, fewest_by_product
from toldback.sure import not_sure, shows_not_sure, sure_by_product

SIX = [2, 3, 5, 7, 11, 13]
EIGHT = [2, 3, 5, 7, 11, 13, 17, 19]
NO_PRIMES = [(2, 3), (), [3, 2], [2, 2], [2, 3, 3], [2, 4], [1], [0], [-2], [True], [2, True], [1009], [2, 1000]]
NO_PRIMES += [[2, None], ["2"], [[2]], [(2, 1)], EIGHT + [23], [2, 5, 3], {2: 3}, "23", 2, range(2, 4)]
NO_BOUNDS = [[1, 1], (-1, 1), (1, 0), (True, 1), (1, True), (1, -1), (1, 1, 1), (None, 1), (1,), ("1", 1)]
NO_NUMBERS = [-1, -GREAT_NUMBER, True, False, None, "1", "", [1], (1,), {}, b"1", [], (), {1: 1}, object()]


def slow_sure(primes, n, d, e):
    """Whether no two fractions have unlike rests by at most twice e of the primes, e at most all."""
    e = min(e, len(primes))
    rests = [[slow_rest(f, p) for p in primes] for f in slow_within(n, d)]
    pairs = itertools.combinations(rests, 2)
    return all(sum(a != b for a, b in zip(one, other)) > 2 * e for one, other in pairs)


def lists_of(primes, many):
    """All rising lists of so many of the primes, sorted."""
    return sorted(list(chosen) for chosen in itertools.combinations(primes, many))


def slow_fewest(primes, n, d, e):
    """The first list of the fewest that are sure, or None."""
    for many in range(len(primes) + 1):
        for chosen in lists_of(primes, many):
            if slow_sure(chosen, n, d, e):
                return chosen
    return None


def slow_fewest_by_product(primes, n, d, e):
    """The last list of the fewest that are sure by the product, or None."""
    for many in range(len(primes) + 1):
        sure = [chosen for chosen in lists_of(primes, many) if slow_enough(chosen, n, d, e)]
        if sure:
            return sure[-1]
    return None


class FewestAsks(unittest.TestCase):
    def check_told(self, primes, n, d, e):
        where = (primes, n, d, e)
        due = slow_fewest(primes, n, d, e)
        told = fewest_asks(primes, (n, d), e)
        if due is None:
            self.assertIsNone(told, where)
            return None
        self.assertIsInstance(told, tuple, where)
        chosen, papers = told
        self.assertEqual(repr(chosen), repr(due), where)
        self.assertIsInstance(papers, list, where)
        fewer = lists_of(primes, len(chosen) - 1) if chosen else []
        self.assertEqual(len(papers), len(fewer), where)
        for each, paper in zip(fewer, papers):
            self.check_paper(each, n, d, min(e, len(each)), paper)
        return chosen

    def check_paper(self, primes, n, d, e, paper):
        where = (primes, n, d, e, paper)
        f, g, readings = paper
        self.assertIsInstance(paper, tuple, where)
        self.assertIsInstance(readings, list, where)
        self.assertNotEqual(f, g, where)
        self.assertEqual([p for p, rest in readings], primes, where)
        for each in [f, g]:
            self.assertIn(each, slow_within(n, d), where)
            self.assertLessEqual(slow_wrong(each, readings), e, where)
        self.assertIs(shows_not_sure(primes, (n, d), e, paper), True, where)

    def test_chance_primes(self):
        chance = random.Random(16)
        lengths = []
        for turn in range(120):
            primes = sorted(chance.sample(slow_primes()[:chance.choice([6, 12, 60])], chance.randint(0, 6)))
            n, d = chance.randint(0, 8), chance.randint(1, 8)
            e = chance.choice([0, 0, 1, chance.randint(0, len(primes))])
            chosen = self.check_told(primes, n, d, min(e, len(primes)))
            lengths.append(None if chosen is None else len(chosen))
        for length in [None, 0, 1, 2, 3, 4]:
            self.assertIn(length, lengths)

    def test_the_first_of_several(self):
        self.assertEqual(fewest_asks([89, 97, 131, 137], (8, 8), 0)[0], [131])
        self.assertEqual(fewest_asks([131, 137, 139], (8, 8), 0)[0], [131])
        self.assertEqual(fewest_asks([131, 137, 139, 149], (8, 8), 1)[0], [131, 137, 139])
        self.assertEqual(fewest_asks([3, 5], (1, 1), 0)[0], [3])
        self.assertEqual(fewest_asks([2, 3, 5], (1, 1), 0), ([3], [fewest_asks([3], (1, 1), 0)[1][0]]))
        self.assertEqual(fewest_asks([2, 3, 5, 7], (1, 1), 1)[0], [3, 5, 7])
        self.check_told([5, 7, 11, 13], 4, 4, 0)

    def test_all_of_them_not_sure(self):
        self.assertIsNone(fewest_asks([], (1, 1), 0))
        self.assertIsNone(fewest_asks([2], (1, 1), 0))
        self.assertIsNone(fewest_asks([131], (8, 8), 1))
        self.assertIsNone(fewest_asks([131, 137], (8, 8), 1))
        self.assertIsNone(fewest_asks(SIX, (8, 8), 2))
        for e in range(7):
            self.assertEqual(fewest_asks(SIX, (8, 8), e) is None, not_sure(SIX, (8, 8), e) is not None)

    def test_no_prime_told(self):
        for primes in [[], [2], SIX]:
            for e in range(len(primes) + 1):
                for d in [1, 8]:
                    self.assertEqual(repr(fewest_asks(primes, (0, d), e)), "([], [])")

    def test_one_prime_told(self):
        chosen, papers = fewest_asks([3, 131], (8, 8), 0)
        self.assertEqual(chosen, [131])
        self.assertEqual(len(papers), 1)
        self.check_paper([], 8, 8, 0, papers[0])
        self.assertEqual(papers[0][2], [])

    def test_lists_of_fewer_than_e_primes(self):
        primes = sorted(GREAT_PRIMES)[:6]
        for e, many in [(0, 1), (1, 3), (2, 5)]:
            self.assertEqual(self.check_told(primes, 8, 8, e), primes[:many])
        for e in [3, 4, 5, 6]:
            self.assertIsNone(self.check_told(primes, 8, 8, e))
            self.assertEqual(self.check_told(primes, 0, 8, e), [])

    def test_all_six_are_needed(self):
        self.assertEqual(self.check_told(SIX, 2, 1, 2), SIX)
        self.assertEqual(self.check_told(SIX, 1, 1, 2), SIX[1:])
        self.assertEqual(self.check_told([2, 3, 5], 4, 3, 0), [2, 3, 5])

    def test_none_of_it_is_shared(self):
        told = check_pure(self, fewest_asks, [2, 3, 5, 7, 11], (4, 4), 0)
        self.assertGreater(len(told[1]), 1)
        check_pure(self, fewest_asks, sorted(GREAT_PRIMES)[:5], (4, 4), 2)
        check_pure(self, fewest_asks, [2, 3, 5], (0, 4), 0)
        check_pure(self, fewest_asks, [], (0, 4), 0)
        check_pure(self, fewest_asks, [3], (1, 1), 0)

    def test_six_primes_and_seven(self):
        self.assertIsNotNone(fewest_asks(SIX, (8, 8), 0))
        check_refused(self, NoPrime, fewest_asks, SIX + [17], (8, 8), 0)
        check_refused(self, NoPrime, fewest_asks, SIX + [17], (0, 1), 0)
        check_refused(self, NoPrime, fewest_asks, SIX + [17, 19], (1, 1), 0)

    def test_bounds_of_eight_and_nine(self):
        for bounds in [(8, 8), (0, 8), (8, 1)]:
            self.assertIsNotNone(fewest_asks([131], bounds, 0))
        for bounds in [(9, 8), (8, 9), (9, 1), (0, 9), (12, 12), (GREAT_NUMBER, 1), (1, GREAT_NUMBER)]:
            check_refused(self, NoBounds, fewest_asks, [131], bounds, 0)
            check_refused(self, NoBounds, fewest_asks, [131], bounds, 2)


class FewestByProduct(unittest.TestCase):
    def test_chance_primes(self):
        chance = random.Random(17)
        lengths = []
        for turn in range(300):
            primes = sorted(chance.sample(slow_primes()[:chance.choice([8, 12, 60, 168])], chance.randint(0, 8)))
            n, d = chance.choice([0, 1, 1, 7, 100, 10 ** 6]), chance.choice([1, 1, 3, 50, 10 ** 7])
            e = chance.choice([0, 1, 2, chance.randint(0, len(primes))])
            e = min(e, len(primes))
            due = slow_fewest_by_product(primes, n, d, e)
            self.assertEqual(repr(fewest_by_product(primes, (n, d), e)), repr(due), (primes, n, d, e))
            lengths.append(None if due is None else len(due))
        for length in [None, 1, 2, 3, 4, 5, 6]:
            self.assertIn(length, lengths)
        self.assertNotIn(0, lengths)

    def test_the_last_of_several(self):
        self.assertEqual(fewest_by_product([31, 37, 41], (5, 3), 0), [41])
        self.assertEqual(fewest_by_product([31, 37, 41, 43], (5, 3), 1), [37, 41, 43])
        self.assertEqual(fewest_by_product([2, 3, 5, 7], (5, 3), 0), [5, 7])
        self.assertEqual(fewest_by_product([2, 3, 5], (5, 3), 0), None)
        self.assertEqual(fewest_by_product([2, 3, 5], (7, 2), 0), [2, 3, 5])

    def test_none(self):
        self.assertIsNone(fewest_by_product([], (0, 1), 0))
        self.assertIsNone(fewest_by_product([], (1, 1), 0))
        self.assertIsNone(fewest_by_product([2], (1, 1), 0))
        self.assertIsNone(fewest_by_product([997], (0, 1), 1))
        self.assertIsNone(fewest_by_product([991, 997], (0, 1), 1))
        for e in range(9):
            self.assertEqual(fewest_by_product(EIGHT, (1, 1), e) is None, not sure_by_product(EIGHT, (1, 1), e))

    def test_top_of_nought(self):
        self.assertEqual(fewest_by_product([2], (0, GREAT_NUMBER), 0), [2])
        self.assertEqual(fewest_by_product(EIGHT, (0, GREAT_NUMBER), 0), [19])
        self.assertEqual(fewest_by_product(EIGHT, (0, GREAT_NUMBER), 1), [13, 17, 19])
        self.assertEqual(fewest_by_product(EIGHT, (0, GREAT_NUMBER), 3), [3, 5, 7, 11, 13, 17, 19])
        self.assertIsNone(fewest_by_product(EIGHT, (0, GREAT_NUMBER), 4))

    def test_eight_primes_at_the_edges(self):
        primes = sorted(GREAT_PRIMES)[-8:]
        for e in range(4):
            for many in range(2 * e + 1, 9):
                chosen = primes[8 - many:]
                least = prod(chosen[:many - 2 * e])
                for bounds in [(least // 2, 1), (1, least // 2)]:
                    self.assertEqual(fewest_by_product(primes, bounds, e), chosen)
                more = primes[7 - many:] if many < 8 else None
                for bounds in [(least // 2 + 1, 1), (1, least // 2 + 1)]:
                    self.assertEqual(fewest_by_product(primes, bounds, e), more)

    def test_bounds_of_thirty_figures(self):
        primes = sorted(GREAT_PRIMES)[:8]
        self.assertIsNone(fewest_by_product(primes, (GREAT_NUMBER, GREAT_NUMBER), 0))
        self.assertIsNone(fewest_by_product(primes, (GREAT_NUMBER, 1), 0))
        self.assertIsNone(fewest_by_product(primes, (1, GREAT_NUMBER), 0))
        self.assertEqual(fewest_by_product(primes, (10 ** 11, 10 ** 12), 0), primes)
        self.assertEqual(fewest_by_product(primes, (10 ** 10, 10 ** 10), 0), primes[1:])

    def test_bounds_from_thirteen_on(self):
        self.assertEqual(fewest_by_product([2, 3, 401], (13, 13), 0), [401])
        self.assertEqual(fewest_by_product([2, 3, 401], (61, 13), 0), [2, 3, 401])

    def test_nothing_is_changed(self):
        check_pure(self, fewest_by_product, [2, 3, 5], (7, 2), 0)
        check_pure(self, fewest_by_product, [2, 3, 5, 7, 11], (2, 2), 1)
        check_pure(self, fewest_by_product, [], (2, 2), 0)


class Refusals(unittest.TestCase):
    def check_both(self, error, primes, bounds, e):
        check_refused(self, error, fewest_asks, primes, bounds, e)
        check_refused(self, error, fewest_by_product, primes, bounds, e)

    def test_no_prime(self):
        for thing in anything_with_lists() + NO_PRIMES:
            self.check_both(NoPrime, thing, (1, 1), 0)
        for thing in NO_PRIMES + [None, "text"]:
            for bounds, e in itertools.product([None, (1, 0), (13, 13)], [None, -1, True, 9]):
                self.check_both(NoPrime, thing, bounds, e)

    def test_seven_eight_and_nine_primes(self):
        self.assertEqual(fewest_by_product(EIGHT[:7], (1, 1), 0), [17])
        self.assertEqual(fewest_by_product(EIGHT, (1, 1), 0), [19])
        check_refused(self, NoPrime, fewest_by_product, EIGHT + [23], (1, 1), 0)

    def test_no_bounds(self):
        for thing in anything() + NO_BOUNDS:
            self.check_both(NoBounds, [2, 3], thing, 0)
            self.check_both(NoBounds, [2, 3], thing, 3)
            self.check_both(NoBounds, [], thing, None)

    def test_no_number(self):
        for thing in NO_NUMBERS + [3, 4, 10 ** 90]:
            self.check_both(NoNumber, [2, 3], (1, 1), thing)
            self.check_both(NoNumber, [], (0, 8), thing)
        self.check_both(NoNumber, [], (1, 1), 1)
        self.check_both(NoNumber, SIX, (1, 1), 7)


if __name__ == "__main__":
    unittest.main()
