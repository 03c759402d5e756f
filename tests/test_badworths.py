"""[2], [3], [4], [25], [26]: quotients told back from worths of which some may be wrong."""

import itertools
import random
import unittest

from things import FIELDS, NO_DEGREES, NO_FEW, NO_FIELDS, chance_quotient, check_pure, check_refused, no_worths
from things import slow_quotients, slow_quotients_fitting, slow_worths, slow_wrong_worths, spoiled_worths, with_roots
from toldback.badworths import all_quotients, quotient_fitting
from toldback.errors import NoDegrees, NoNumber, NoPrime, NoWorths, TooFew
from toldback.interpolated import one_quotient

ALL_DEGREES = list(itertools.product(range(5), repeat=2))
SMALL = [(0, 0), (0, 1), (1, 0), (0, 2), (2, 0), (1, 1)]
GREAT = [p for p in FIELDS if p > 12]


def wanted(a, b, e):
    return a + b + 1 + 2 * e


class QuotientFitting(unittest.TestCase):
    def check_slow(self, worths, p, a, b, e):
        fitting = slow_quotients_fitting(worths, p, a, b, e)
        self.assertLess(len(fitting), 2, (worths, p, a, b, e))
        due = fitting[0] if fitting else None
        self.assertEqual(repr(quotient_fitting(worths, p, (a, b), e)), repr(due), (worths, p, a, b, e))
        return due

    def test_against_a_slow_search(self):
        chance = random.Random(25)
        found = []
        for p, (a, b), e in itertools.product([3, 5, 7], SMALL, range(3)):
            for turn in range(12):
                if wanted(a, b, e) <= p:
                    places = chance.sample(range(p), chance.randint(wanted(a, b, e), p))
                    worths = slow_worths(chance_quotient(chance, p, a, b), p, places)
                    worths = spoiled_worths(chance, worths, p, chance.randint(0, min(e + 2, len(worths))))
                    found.append(self.check_slow(worths, p, a, b, e))
        self.assertTrue(80 < found.count(None) < len(found) - 80, (found.count(None), len(found)))

    def test_chance_worths_of_any_kind(self):
        chance = random.Random(26)
        for p, (a, b), e in itertools.product([3, 5, 7], SMALL, range(3)):
            for turn in range(8):
                if wanted(a, b, e) <= p:
                    places = chance.sample(range(p), chance.randint(wanted(a, b, e), p))
                    self.check_slow([(x, chance.choice([None, None, 0, 0, 1, 2])) for x in places], p, a, b, e)

    def test_planted_with_none_to_e_wrong(self):
        chance = random.Random(27)
        for (a, b), e in itertools.product(ALL_DEGREES, range(3)):
            for many in range(wanted(a, b, e), 13):
                for wrong in range(e + 1):
                    p = chance.choice(GREAT)
                    q = chance_quotient(chance, p, a, b)
                    worths = slow_worths(q, p, chance.sample(range(p), many))
                    worths = spoiled_worths(chance, worths, p, wrong)
                    told = quotient_fitting(worths, p, (a, b), e)
                    self.assertEqual(repr(told), repr(q), (worths, p, a, b, e))

    def test_more_than_e_wrong(self):
        chance = random.Random(28)
        for (a, b), e in itertools.product(ALL_DEGREES, range(3)):
            # With one worth more than wanted, and e + 1 wrong, no other one fits, either.
            for many in range(wanted(a, b, e) + 1, 13):
                p = chance.choice(GREAT)
                worths = slow_worths(chance_quotient(chance, p, a, b), p, chance.sample(range(p), many))
                self.assertIsNone(quotient_fitting(spoiled_worths(chance, worths, p, e + 1), p, (a, b), e))

    def test_more_than_e_wrong_that_another_fits(self):
        one, other = ([3], [1]), ([0, 1], [1])
        worths = slow_worths(one, 97, [10, 11]) + slow_worths(other, 97, [20, 21, 22])
        self.assertEqual(quotient_fitting(worths, 97, (1, 0), 1), None)
        worths = slow_worths(one, 97, [10]) + slow_worths(other, 97, [20, 21, 22])
        self.assertEqual(quotient_fitting(worths, 97, (1, 0), 1), other)
        worths = slow_worths(one, 97, [10, 11]) + slow_worths(other, 97, [20, 21, 22, 23])
        self.assertEqual(quotient_fitting(worths, 97, (1, 0), 2), other)
        self.assertEqual(quotient_fitting(worths, 97, (1, 0), 1), None)
        self.assertEqual(quotient_fitting(worths, 97, (0, 0), 2), None)

    def test_poles_wrong_and_right(self):
        q = ([1, 1], with_roots([0, 1], 97))
        right = slow_worths(q, 97, [0, 1, 2, 3, 4, 5, 6, 7])
        self.assertEqual([w for x, w in right[:3]], [None, None, 50])
        for wrong in itertools.combinations(range(8), 2):
            for none in [None, 0, 5]:
                worths = [(x, (none if w != none else 7) if place in wrong else w) for place, (x, w) in enumerate(right)]
                self.assertEqual(slow_wrong_worths(q, 97, worths), 2)
                self.assertEqual(quotient_fitting(worths, 97, (1, 2), 2), q)
                self.assertIsNone(quotient_fitting(worths, 97, (1, 2), 1))
                self.assertIsNone(quotient_fitting(worths, 97, (2, 1), 2))
                self.assertIsNone(quotient_fitting(worths, 97, (0, 3), 2))

    def test_nought_told_back(self):
        for e in range(3):
            for many in range(1 + 2 * e, 13):
                for value in [None, 1]:
                    worths = [(x, value if x < e else 0) for x in range(many)]
                    self.assertEqual(quotient_fitting(worths, 13, (0, 0), e), ([], [1]))
                self.assertIsNone(quotient_fitting([(x, None) for x in range(many)], 13, (0, 0), e))

    def test_none_wrong_as_all_right(self):
        chance = random.Random(29)
        for turn in range(100):
            p, (a, b) = chance.choice(GREAT), chance.choice(ALL_DEGREES)
            places = chance.sample(range(p), chance.randint(a + b + 1, 12))
            worths = [(x, chance.choice([None, 0, 1, chance.randrange(p)])) for x in places]
            self.assertEqual(quotient_fitting(worths, p, (a, b), 0), one_quotient(worths, p, (a, b)))

    def test_too_few(self):
        for (a, b), e in itertools.product(ALL_DEGREES, range(3)):
            for many in range(13):
                worths = [(12 - x, None if x < 3 else x) for x in range(many)]
                if many < wanted(a, b, e):
                    check_refused(self, TooFew, quotient_fitting, worths, 13, (a, b), e)
                else:
                    quotient_fitting(worths, 13, (a, b), e)
        check_refused(self, TooFew, quotient_fitting, [(x, 1) for x in range(12)], 97, (4, 4), 2)


class AllQuotients(unittest.TestCase):
    def check_slow(self, worths, p, a, b, e):
        due = slow_quotients_fitting(worths, p, a, b, e)
        self.assertEqual(repr(all_quotients(worths, p, (a, b), e)), repr(due), (worths, p, a, b, e))
        return due

    def test_no_worths(self):
        for p, (a, b), e in itertools.product([3, 5, 7], SMALL, range(3)):
            self.assertEqual(repr(all_quotients([], p, (a, b), e)), repr(slow_quotients(a, b, p)), (p, a, b, e))

    def test_against_a_slow_search(self):
        chance = random.Random(30)
        numbers = []
        for p, (a, b), e in itertools.product([3, 5, 7], SMALL, range(3)):
            for many in range(p + 1):
                worths = slow_worths(chance_quotient(chance, p, a, b), p, chance.sample(range(p), many))
                worths = spoiled_worths(chance, worths, p, chance.randint(0, min(3, many)))
                numbers.append(len(self.check_slow(worths, p, a, b, e)))
        for number in [0, 1, 2, 3]:
            self.assertIn(number, numbers)

    def test_fewer_worths_than_wrong(self):
        for p, (a, b) in itertools.product([3, 5, 7], SMALL):
            self.assertEqual(all_quotients([(1, None)], p, (a, b), 1), slow_quotients(a, b, p))
            self.assertEqual(all_quotients([(1, None), (2, 0)], p, (a, b), 2), slow_quotients(a, b, p))

    def test_told(self):
        self.assertEqual(all_quotients([], 3, (0, 0), 0), [([], [1]), ([1], [1]), ([2], [1])])
        self.assertEqual(all_quotients([(0, None)], 3, (0, 1), 0), [([1], [0, 1]), ([2], [0, 1])])
        self.assertEqual(all_quotients([(0, 1), (1, 2)], 3, (1, 0), 0), [([1, 1], [1])])
        self.assertEqual(all_quotients([(0, 1), (1, 2)], 3, (0, 0), 0), [])
        self.assertEqual(all_quotients([(0, 1), (1, 2)], 3, (0, 0), 1), [([1], [1]), ([2], [1])])
        due = [([1], [1]), ([1], [1, 1]), ([1, 1], [1]), ([1, 2], [1]), ([1, 2], [1, 1]), ([2], [2, 1]), ([2, 2], [2, 1])]
        self.assertEqual(all_quotients([(0, 1)], 3, (1, 1), 0), due)

    def test_the_one_that_fits_among_all(self):
        chance = random.Random(31)
        for turn in range(60):
            p, (a, b), e = chance.choice([5, 7]), chance.choice(SMALL), chance.choice([0, 1])
            if wanted(a, b, e) <= p:
                worths = [(x, chance.choice([None, 0, 1])) for x in chance.sample(range(p), wanted(a, b, e))]
                one = quotient_fitting(worths, p, (a, b), e)
                self.assertEqual(all_quotients(worths, p, (a, b), e), [] if one is None else [one])

    def test_greater_primes_and_degrees(self):
        for p in FIELDS:
            for a, b in ALL_DEGREES:
                if p > 7 or a + b > 2:
                    for worths in [[], [(0, 1), (1, None)]]:
                        check_refused(self, NoDegrees, all_quotients, worths, p, (a, b), 0)
                        check_refused(self, NoDegrees, all_quotients, worths, p, (a, b), None)
                else:
                    self.assertNotEqual(all_quotients([], p, (a, b), 0), [])


class Refusals(unittest.TestCase):
    def check_both(self, error, worths, p, degrees, e):
        check_refused(self, error, quotient_fitting, worths, p, degrees, e)
        check_refused(self, error, all_quotients, worths, p, degrees, e)

    def test_no_prime_ahead_of_all(self):
        for thing in NO_FIELDS:
            for worths in [[], [(0, 1)], None, [(0, 0), (0, 0)], "-"]:
                for degrees, e in itertools.product([(0, 0), (5, 5), None], [0, 3, True]):
                    self.check_both(NoPrime, worths, thing, degrees, e)

    def test_no_worths_ahead_of_no_degrees(self):
        for p in [3, 7, 11, 97]:
            for thing in no_worths(p):
                for degrees, e in itertools.product([(0, 0), (4, 4), (5, 0), None], [0, 3, None]):
                    self.check_both(NoWorths, thing, p, degrees, e)

    def test_no_degrees_ahead_of_no_number(self):
        for thing in NO_DEGREES:
            for p, e in itertools.product([3, 7, 11, 97], [0, 2, 3, True, None]):
                for worths in [[], [(0, 1)], [(0, 1), (2, None), (1, 1)]]:
                    self.check_both(NoDegrees, worths, p, thing, e)

    def test_no_number_ahead_of_too_few(self):
        for thing in NO_FEW:
            for worths in [[], [(0, 1)], [(x, 1) for x in range(7)]]:
                for degrees in [(0, 0), (1, 1), (2, 0)]:
                    self.check_both(NoNumber, worths, 7, degrees, thing)
                check_refused(self, NoNumber, quotient_fitting, worths, 97, (4, 4), thing)

    def test_thirteen_worths(self):
        check_refused(self, NoWorths, quotient_fitting, [(x, 1) for x in range(13)], 97, (0, 0), 0)
        self.assertEqual(quotient_fitting([(x, 1) for x in range(12)], 97, (0, 0), 0), ([1], [1]))

    def test_each_prime(self):
        for p in FIELDS:
            self.assertEqual(quotient_fitting([(1, 1), (2, 2), (0, 0)], p, (1, 1), 0), ([0, 1], [1]))
            self.assertEqual(quotient_fitting([(1, 1), (2, 2), (0, 1)], p, (0, 0), 1), ([1], [1]))


class Pure(unittest.TestCase):
    def test_nothing_is_changed_and_each_list_is_new(self):
        rows = [[], [(1, None)], [(1, 1), (2, 1)], [(0, None), (1, 0), (2, 1)], [(0, 1), (1, 1), (2, 1), (3, 3), (4, None)]]
        for worths in rows:
            for (a, b), e in itertools.product(SMALL, range(3)):
                check_pure(self, all_quotients, worths, 5, (a, b), e)
                if len(worths) >= wanted(a, b, e):
                    check_pure(self, quotient_fitting, worths, 5, (a, b), e)


if __name__ == "__main__":
    unittest.main()
