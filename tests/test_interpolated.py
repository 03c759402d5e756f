"""[2], [3], [4], [23], [24]: quotients told back from worths that are all right."""

import itertools
import random
import unittest

from things import FIELDS, NO_DEGREES, NO_FIELDS, chance_quotient, check_pure, check_refused, no_worths
from things import slow_one_quotient, slow_quotients, slow_quotients_fitting, slow_worths, slow_wrong_worths
from things import spoiled_worths, with_roots
from toldback.errors import NoDegrees, NoPrime, NoWorths, TooFew
from toldback.interpolated import least_quotient, one_quotient
from toldback.quotients import is_quotient

ALL_DEGREES = list(itertools.product(range(5), repeat=2))


def all_worths_at(places, p):
    """All worths at the places, in their order."""
    return [list(zip(places, row)) for row in itertools.product([None] + list(range(p)), repeat=len(places))]


class OneQuotient(unittest.TestCase):
    def check_slow(self, worths, p, a, b):
        fitting = slow_quotients_fitting(worths, p, a, b, 0)
        self.assertLess(len(fitting), 2, (worths, p, a, b))
        due = fitting[0] if fitting else None
        self.assertEqual(repr(one_quotient(worths, p, (a, b))), repr(due), (worths, p, a, b))
        return due

    def test_all_worths_by_three(self):
        for many in range(1, 4):
            for places in itertools.permutations(range(3), many):
                for worths in all_worths_at(places, 3):
                    for a, b in [(0, 0), (0, 1), (1, 0), (0, 2), (2, 0), (1, 1)]:
                        if a + b < many:
                            self.check_slow(worths, 3, a, b)

    def test_chance_worths_by_five_and_seven(self):
        chance = random.Random(23)
        found = []
        for turn in range(250):
            p, a, b = chance.choice([(5, 1, 1), (5, 2, 2), (5, 1, 2), (5, 3, 1), (5, 1, 3), (7, 1, 1), (7, 2, 0), (7, 0, 2)])
            places = chance.sample(range(p), chance.randint(a + b + 1, p))
            worths = slow_worths(chance_quotient(chance, p, a, b), p, places)
            found.append(self.check_slow(spoiled_worths(chance, worths, p, chance.choice([0, 0, 1, 2])), p, a, b))
        self.assertTrue(60 < found.count(None) < 190, found.count(None))

    def test_planted_each_degree(self):
        chance = random.Random(24)
        for a, b in ALL_DEGREES:
            for p in chance.sample([p for p in FIELDS if p > 12], 3) + [97]:
                for many in range(a + b + 1, 13):
                    q = chance_quotient(chance, p, a, b)
                    worths = slow_worths(q, p, chance.sample(range(p), many))
                    self.assertEqual(repr(one_quotient(worths, p, (a, b))), repr(q), (worths, p, a, b))

    def test_planted_with_poles(self):
        for p in [13, 41, 97]:
            for many in range(5):
                q = ([3, 1], with_roots(range(many), p))
                worths = slow_worths(q, p, [10, 0, 7, 1, 5, 2, 6, 3, 11])
                self.assertEqual([w for x, w in worths].count(None), many)
                self.assertEqual(one_quotient(worths, p, (4, 4)), q)
                self.assertEqual(one_quotient(worths, p, (1, many)), q)
                self.assertEqual(one_quotient(worths, p, (4, many)), q)
                self.assertIsNone(one_quotient(worths, p, (0, many)))
                if many > 0:
                    self.assertIsNone(one_quotient(worths, p, (4, many - 1)))

    def test_one_wrong_of_more_worths(self):
        chance = random.Random(25)
        for a, b in ALL_DEGREES:
            for many in range(a + b + 2, 13):
                p = chance.choice([p for p in FIELDS if p > 12])
                worths = slow_worths(chance_quotient(chance, p, a, b), p, chance.sample(range(p), many))
                self.assertIsNone(one_quotient(spoiled_worths(chance, worths, p, 1), p, (a, b)))

    def test_against_equations(self):
        chance = random.Random(26)
        nones = 0
        for turn in range(400):
            a, b = chance.choice(ALL_DEGREES)
            p = chance.choice([p for p in FIELDS if p > a + b])
            many = chance.randint(a + b + 1, min(p, 12))
            places = chance.sample(range(p), many)
            worths = [(x, chance.choice([None, 0, 0, 1, chance.randrange(p)])) for x in places]
            due = slow_one_quotient(worths, p, a, b)
            nones += due is None
            self.assertEqual(repr(one_quotient(worths, p, (a, b))), repr(due), (worths, p, a, b))
        self.assertTrue(100 < nones < 390, nones)

    def test_no_quotient_keeps_all(self):
        self.assertIsNone(one_quotient([(0, 1), (1, 1), (2, 2)], 5, (1, 1)))
        self.assertEqual(one_quotient([(0, 1), (1, 1), (2, 2)], 5, (2, 0)), ([1, 2, 3], [1]))
        self.assertIsNone(one_quotient([(0, None), (1, None)], 5, (1, 0)))
        self.assertIsNone(one_quotient([(0, None), (1, 0)], 5, (0, 1)))
        self.assertIsNone(one_quotient([(0, None), (1, 0), (2, 1)], 5, (0, 2)))
        self.assertEqual(one_quotient([(0, None), (1, 0), (2, 1)], 5, (1, 1)), ([3, 2], [0, 1]))

    def test_degrees_of_nought(self):
        for p in FIELDS:
            for w in range(p):
                self.assertEqual(one_quotient([(0, w)], p, (0, 0)), ([w] if w else [], [1]))
                self.assertEqual(one_quotient([(2, w), (0, w)], p, (0, 0)), ([w] if w else [], [1]))
            self.assertIsNone(one_quotient([(0, None)], p, (0, 0)))
            self.assertIsNone(one_quotient([(0, 1), (1, 2)], p, (0, 0)))
            self.assertIsNone(one_quotient([(0, 0), (1, None)], p, (0, 0)))

    def test_nought_told_back(self):
        for a, b in ALL_DEGREES:
            for many in range(a + b + 1, 13):
                self.assertEqual(one_quotient([(x, 0) for x in range(many)], 13, (a, b)), ([], [1]))
                self.assertIsNone(one_quotient([(x, None) for x in range(many)], 13, (a, b)))

    def test_all_places_of_a_prime(self):
        for p in [3, 5, 7]:
            poles = with_roots(range(p - 1), p)
            if p <= 5:
                worths = [(x, None) for x in range(p - 1)] + [(p - 1, 4 % p)]
                told = one_quotient(worths, p, (0, p - 1))
                self.assertEqual(told[1], poles)
                self.assertEqual(slow_wrong_worths(told, p, worths), 0)
            self.assertIsNone(one_quotient([(x, None) for x in range(p)], p, (0, min(4, p - 1))))

    def test_too_few(self):
        for a, b in ALL_DEGREES:
            for many in range(13):
                for worths in [[(x, 1) for x in range(many)], [(12 - x, None if x < 4 else x) for x in range(many)]]:
                    if many < a + b + 1:
                        check_refused(self, TooFew, one_quotient, worths, 13, (a, b))
                    else:
                        one_quotient(worths, 13, (a, b))
        check_refused(self, TooFew, one_quotient, [(0, 1), (1, 1), (2, 1)], 3, (2, 1))


class LeastQuotient(unittest.TestCase):
    def check_told(self, worths, p):
        """Checks the form of what is told and that it keeps all; tells the degrees."""
        told = least_quotient(worths, p)
        self.assertIsInstance(told, tuple)
        degrees, q = told
        self.assertIsInstance(degrees, tuple)
        self.assertIs(is_quotient(q, p), True, (worths, p, told))
        self.assertEqual(repr(degrees), repr((max(0, len(q[0]) - 1), len(q[1]) - 1)), (worths, p, told))
        self.assertEqual(slow_wrong_worths(q, p, worths), 0, (worths, p, told))
        return degrees

    def check_least(self, worths, p, keeps):
        """Checks that no lesser degrees than those told are those of one that keeps all."""
        a, b = self.check_told(worths, p)
        poles = [w for x, w in worths].count(None)
        for together in range(a + b + 1):
            for less in range(together + 1):
                # The bottom is nought at each pole, so no lesser one needs a look.
                if less >= poles and (together, less) < (a + b, b):
                    self.assertFalse(keeps(worths, p, together - less, less), (worths, p, a, b))
        return a, b

    def slow_keeps(self, worths, p, a, b):
        return slow_quotients_fitting(worths, p, a, b, 0) != []

    def equations_keep(self, worths, p, a, b):
        self.assertLess(a + b, len(worths))
        return slow_one_quotient(worths, p, a, b) is not None

    def test_all_worths_by_three(self):
        seen = set()
        for many in range(4):
            for places in itertools.permutations(range(3), many):
                for worths in all_worths_at(places, 3):
                    seen.add(self.check_least(worths, 3, self.slow_keeps))
        self.assertEqual(seen, {(0, 0), (1, 0), (0, 1), (2, 0), (1, 1), (0, 2), (2, 1), (1, 2), (0, 3)})

    def test_chance_worths_by_five_and_seven(self):
        chance = random.Random(27)
        for turn in range(150):
            p, many = chance.choice([(5, 3), (5, 4), (7, 2), (7, 3)])
            worths = [(x, chance.choice([None, None, *range(p)])) for x in chance.sample(range(p), many)]
            self.check_least(worths, p, self.slow_keeps)

    def test_chance_worths_against_equations(self):
        chance = random.Random(28)
        full = 0
        for turn in range(300):
            p = chance.choice(FIELDS)
            many = chance.randint(1, min(p, 8))
            odds = chance.choice([[None], [None, 0], [0, 1], [None, 0, 1, 2], list(range(p)), [None] + list(range(p))])
            worths = [(x, chance.choice(odds)) for x in chance.sample(range(p), many)]
            a, b = self.check_least(worths, p, self.equations_keep)
            if a + b == many:
                full += 1
                self.assertEqual(b, [w for x, w in worths].count(None))
            self.assertLessEqual(a + b, many)
        self.assertGreater(full, 30)

    def test_planted(self):
        chance = random.Random(29)
        for turn in range(200):
            p = chance.choice([p for p in FIELDS if p > 8])
            a, b = chance.choice([(0, 0), (1, 0), (0, 1), (2, 1), (1, 2), (3, 3), (0, 7), (7, 0), (2, 5)])
            q = chance_quotient(chance, p, a, b)
            worths = slow_worths(q, p, chance.sample(range(p), 8))
            told = self.check_least(worths, p, self.equations_keep)
            self.assertLessEqual(sum(told), a + b)

    def test_none(self):
        for p in FIELDS:
            self.assertEqual(self.check_told([], p), (0, 0))

    def test_one(self):
        for p in FIELDS:
            for x in range(p):
                self.assertEqual(least_quotient([(x, 0)], p), ((0, 0), ([], [1])))
                self.assertEqual(least_quotient([(x, p - 1)], p), ((0, 0), ([p - 1], [1])))
                self.assertEqual(self.check_told([(x, None)], p), (0, 1))

    def test_eight(self):
        for p in [11, 97]:
            self.assertEqual(self.check_told([(x, None) for x in range(8)], p), (0, 8))
            self.assertEqual(least_quotient([(x, 0) for x in range(8)], p), ((0, 0), ([], [1])))
            # Nought at seven places and not at the eighth: no bottom spares one of the seven.
            self.assertEqual(self.check_told([(x, 0) for x in range(7)] + [(7, 1)], p), (7, 0))
            self.assertEqual(self.check_told([(x, 0) for x in range(7)] + [(7, None)], p), (7, 1))
            self.assertEqual(self.check_told([(x, 1) for x in range(7)] + [(7, None)], p), (0, 7))
            self.assertEqual(self.check_told([(x, None) for x in range(7)] + [(7, 1)], p), (0, 7))
            self.assertEqual(self.check_told([(x, None) for x in range(7)] + [(7, 0)], p), (1, 7))

    def test_least_bottom_of_the_same_together(self):
        self.assertEqual(least_quotient([(0, 1), (1, 2)], 5), ((1, 0), ([1, 1], [1])))
        self.assertEqual(least_quotient([(1, 1), (2, 3)], 5), ((1, 0), ([4, 2], [1])))
        self.assertEqual(least_quotient([(0, 1), (1, 1), (2, 2)], 5), ((2, 0), ([1, 2, 3], [1])))
        self.assertEqual(least_quotient([(1, 1), (2, 3), (3, 2)], 5), ((0, 1), ([1], [0, 1])))

    def test_all_places_of_a_prime(self):
        for p in [3, 5, 7]:
            self.assertEqual(self.check_told([(x, None) for x in range(p)], p), (0, p))
            for w in range(p):
                worths = [(x, None) for x in range(1, p)] + [(0, w)]
                self.assertEqual(self.check_told(worths, p), (0 if w else 1, p - 1))

    def test_nine(self):
        for many in [9, 10, 12, 13]:
            check_refused(self, NoWorths, least_quotient, [(x, 1) for x in range(many)], 97)
            check_refused(self, NoWorths, least_quotient, [(x, None) for x in range(many)], 13)


class Refusals(unittest.TestCase):
    def test_no_prime_ahead_of_all(self):
        for thing in NO_FIELDS:
            for worths in [[], [(0, 1)], [(0, 1), (1, 1), (2, 2)], None, [(0, 0), (0, 0)], "-"]:
                check_refused(self, NoPrime, least_quotient, worths, thing)
                for degrees in [(0, 0), (5, 5), None]:
                    check_refused(self, NoPrime, one_quotient, worths, thing, degrees)

    def test_no_worths_ahead_of_no_degrees(self):
        for p in [3, 5, 97]:
            for thing in no_worths(p):
                check_refused(self, NoWorths, least_quotient, thing, p)
                for degrees in [(0, 0), (4, 4), (5, 0), [0, 0], None, (True, 0)]:
                    check_refused(self, NoWorths, one_quotient, thing, p, degrees)

    def test_no_degrees_ahead_of_too_few(self):
        for thing in NO_DEGREES:
            for worths in [[], [(0, 1)], [(x, 1) for x in range(12)]]:
                check_refused(self, NoDegrees, one_quotient, worths, 97, thing)

    def test_each_prime(self):
        for p in FIELDS:
            self.assertEqual(one_quotient([(1, 1), (2, 2), (0, 0)], p, (1, 1)), ([0, 1], [1]))
            self.assertEqual(least_quotient([(1, 1), (2, 2), (0, 0)], p), ((1, 0), ([0, 1], [1])))


class Pure(unittest.TestCase):
    def test_nothing_is_changed_and_each_list_is_new(self):
        rows = [[], [(1, 1)], [(1, None)], [(1, 1), (2, 1)], [(0, None), (1, 0), (2, 1)], [(0, 1), (1, 1), (2, 2), (3, 3)]]
        for worths in rows:
            check_pure(self, least_quotient, worths, 5)
            for a, b in [(0, 0), (1, 0), (0, 1), (1, 1), (2, 0)]:
                if len(worths) > a + b:
                    check_pure(self, one_quotient, worths, 5, (a, b))

    def test_every_quotient_of_small_degrees(self):
        for q in slow_quotients(1, 1, 5):
            worths = slow_worths(q, 5, [4, 1, 3])
            self.assertEqual(check_pure(self, one_quotient, worths, 5, (1, 1)), q)


if __name__ == "__main__":
    unittest.main()
