"""[2], [3], [21], [22]: quotients of polynomials and their worths."""

import itertools
import random
import unittest

from things import FIELDS, NO_FIELDS, anything, chance_poly, chance_quotient, check_pure, check_refused
from things import no_places, no_polys, no_quotients, no_worths, slow_common, slow_poly_product, slow_polys
from things import slow_quotients, slow_worth, slow_worths, with_roots
from toldback.errors import NoNumber, NoPoly, NoPrime, NoQuotient, NoWorths
from toldback.quotients import is_quotient, is_worths, quotient_of, quotient_worth, worths_not_kept


class IsQuotient(unittest.TestCase):
    def test_all_small_pairs(self):
        for p, degree in [(3, 2), (5, 1)]:
            polys = slow_polys(degree, p)
            for top, bottom in itertools.product(polys, repeat=2):
                due = bottom[-1:] == [1] and slow_common(top, bottom, p) == [(1,)]
                self.assertIs(is_quotient((top, bottom), p), due, (top, bottom, p))

    def test_told(self):
        for p in FIELDS:
            self.assertIs(is_quotient(([], [1]), p), True)
            self.assertIs(is_quotient(([2], [1]), p), True)
            self.assertIs(is_quotient(([2], [0, 1]), p), True)
            self.assertIs(is_quotient(([2], [0, 2]), p), False)
            self.assertIs(is_quotient(([], [0, 1]), p), False)
            self.assertIs(is_quotient(([1, 1], [1, 1]), p), False)
            self.assertIs(is_quotient(([1, 1], [2, 1]), p), True)
            self.assertIs(is_quotient(([p - 1, 0, 1], [1, 1]), p), False)

    def test_longer_polynomials(self):
        top, bottom = with_roots([1, 2, 3] * 6, 97), with_roots([4, 5] * 8, 97)
        self.assertIs(is_quotient((top, bottom), 97), True)
        self.assertIs(is_quotient((bottom, top), 97), True)
        self.assertIs(is_quotient((top, with_roots([4, 5] * 8 + [3], 97)), 97), False)
        self.assertIs(is_quotient((top, slow_poly_product([2], bottom, 97)), 97), False)
        self.assertIs(is_quotient(([1], [0] * 60 + [1]), 3), True)
        self.assertIs(is_quotient(([0, 1], [0] * 60 + [1]), 3), False)

    def test_anything(self):
        for p in [3, 5, 97]:
            for thing in no_quotients(p) + anything():
                self.assertIs(is_quotient(thing, p), False, (thing, p))
            for thing in no_polys(p):
                self.assertIs(is_quotient((thing, [1]), p), False, (thing, p))
                self.assertIs(is_quotient(([1], thing), p), False, (thing, p))
                self.assertIs(is_quotient((thing, thing), p), False, (thing, p))


class QuotientOf(unittest.TestCase):
    def check_told(self, one, other, p):
        told = quotient_of(one, other, p)
        self.assertIsInstance(told, tuple)
        top, bottom = told
        self.assertIs(is_quotient(told, p), True, (one, other, p))
        self.assertEqual(slow_poly_product(top, other, p), slow_poly_product(bottom, one, p), (one, other, p))
        return told

    def test_all_small(self):
        quotients = slow_quotients(2, 2, 3)
        for one, other in itertools.product(slow_polys(2, 3), repeat=2):
            if other:
                self.assertIn(self.check_told(one, other, 3), quotients)

    def test_known_common_part(self):
        chance = random.Random(21)
        for turn in range(150):
            p = chance.choice(FIELDS)
            q = chance_quotient(chance, p, 6, 6)
            shared = [number for number in chance_poly(chance, p, 8)] or [1]
            one, other = [slow_poly_product(poly, shared, p) for poly in q]
            self.assertEqual(repr(self.check_told(one, other, p)), repr(q), (one, other, p))

    def test_told(self):
        self.assertEqual(quotient_of([1, 1], [2, 2], 5), ([3], [1]))
        self.assertEqual(quotient_of([1, 1], [0, 2], 5), ([3, 3], [0, 1]))
        self.assertEqual(quotient_of([4, 0, 1], [1, 1], 5), ([4, 1], [1]))
        self.assertEqual(quotient_of([1, 1], [4, 0, 1], 5), ([1], [4, 1]))
        self.assertEqual(quotient_of([1], [1], 5), ([1], [1]))
        self.assertEqual(quotient_of([3], [3], 5), ([1], [1]))

    def test_top_nought(self):
        for p in FIELDS:
            for other in [[1], [2], [0, 1], [1, 2, 2], [1] * 14]:
                self.assertEqual(quotient_of([], other, p), ([], [1]))

    def test_bottom_nought(self):
        for p in [3, 97]:
            for one in [[], [1], [0, 1], [1] * 14]:
                check_refused(self, NoPoly, quotient_of, one, [], p)

    def test_no_poly(self):
        for p in [3, 5, 97]:
            for thing in no_polys(p):
                for other in [[], [1], [1, 2], thing, None, ()]:
                    check_refused(self, NoPoly, quotient_of, thing, other, p)
                for one in [[], [1], [1, 2], None, ()]:
                    check_refused(self, NoPoly, quotient_of, one, thing, p)


class QuotientWorth(unittest.TestCase):
    def test_each_place(self):
        chance = random.Random(22)
        poles = 0
        for p in FIELDS:
            for turn in range(5):
                q = chance_quotient(chance, p, 9, 9)
                for x in range(p):
                    due = slow_worth(q, p, x)
                    poles += due is None
                    self.assertEqual(repr(quotient_worth(q, p, x)), repr(due), (q, p, x))
        self.assertGreater(poles, 50)

    def test_told(self):
        self.assertEqual([quotient_worth(([1], [0, 1]), 5, x) for x in range(5)], [None, 1, 3, 2, 4])
        self.assertEqual([quotient_worth(([], [1]), 3, x) for x in range(3)], [0, 0, 0])
        self.assertEqual([quotient_worth(([1], [0, 2, 0, 1]), 3, x) for x in range(3)], [None, None, None])

    def test_no_place(self):
        for p in [3, 7, 97]:
            for thing in no_places(p):
                check_refused(self, NoNumber, quotient_worth, ([], [1]), p, thing)
                check_refused(self, NoNumber, quotient_worth, ([1, 2], [0, 1]), p, thing)

    def test_no_quotient_ahead_of_no_number(self):
        for p in [3, 5, 97]:
            for thing in no_quotients(p):
                for x in [0, 1] + no_places(p):
                    check_refused(self, NoQuotient, quotient_worth, thing, p, x)


class IsWorths(unittest.TestCase):
    def test_none_twelve_and_thirteen(self):
        for p in FIELDS:
            self.assertIs(is_worths([], p), True)
        for w in [None, 0, 12]:
            for many in [1, 11, 12, 13, 14, 17]:
                self.assertIs(is_worths([(x, w) for x in range(many)], 17), many <= 12, (w, many))
                self.assertIs(is_worths([(16 - x, w) for x in range(many)], 17), many <= 12, (w, many))

    def test_all_single_ones(self):
        for x in range(-2, 8):
            for w in [None] + list(range(-2, 8)):
                due = 0 <= x < 5 and (w is None or 0 <= w < 5)
                self.assertIs(is_worths([(x, w)], 5), due, (x, w))

    def test_a_place_twice(self):
        for w, v in itertools.product([None, 0, 1], repeat=2):
            self.assertIs(is_worths([(0, w), (0, v)], 3), False)
            self.assertIs(is_worths([(0, w), (1, v)], 3), True)
            self.assertIs(is_worths([(2, w), (1, 0), (2, v)], 3), False)
            self.assertIs(is_worths([(2, w), (1, 0), (0, v)], 3), True)

    def test_anything(self):
        for p in [3, 5, 97]:
            for thing in no_worths(p) + anything():
                self.assertIs(is_worths(thing, p), False, (thing, p))


class NotKept(unittest.TestCase):
    def test_told(self):
        q = ([1], [0, 1])
        self.assertEqual(worths_not_kept(q, 5, [(0, None), (1, 1), (2, 3), (3, 2), (4, 4)]), [])
        self.assertEqual(worths_not_kept(q, 5, [(4, 4), (0, 0), (1, None), (2, 3), (3, 1)]), [1, 2, 4])
        self.assertEqual(worths_not_kept(q, 5, []), [])
        self.assertEqual(worths_not_kept(([], [1]), 5, [(3, 0), (0, None), (1, 0)]), [1])

    def test_chance(self):
        chance = random.Random(23)
        for turn in range(300):
            p = chance.choice(FIELDS)
            q = chance_quotient(chance, p, 8, 8)
            worths = slow_worths(q, p, chance.sample(range(p), chance.randint(0, min(p, 12))))
            worths = [(x, chance.choice([w, w, None, 0, p - 1])) for x, w in worths]
            due = [place for place, (x, w) in enumerate(worths) if slow_worth(q, p, x) != w]
            self.assertEqual(repr(worths_not_kept(q, p, worths)), repr(due), (q, p, worths))

    def test_no_quotient_then_no_worths(self):
        for p in [3, 97]:
            for thing in no_quotients(p):
                for worths in [[], [(0, 1)], None, [(0, p)], "-", ()]:
                    check_refused(self, NoQuotient, worths_not_kept, thing, p, worths)
            for thing in no_worths(p):
                check_refused(self, NoWorths, worths_not_kept, ([], [1]), p, thing)
                check_refused(self, NoWorths, worths_not_kept, ([1], [0, 1]), p, thing)


class NoPrimes(unittest.TestCase):
    def test_ahead_of_all(self):
        for thing in NO_FIELDS:
            for odd in [([], [1]), ([1], []), [], None, [(0, 1)], "1"]:
                check_refused(self, NoPrime, is_quotient, odd, thing)
                check_refused(self, NoPrime, is_worths, odd, thing)
                check_refused(self, NoPrime, quotient_of, odd, [1], thing)
                check_refused(self, NoPrime, quotient_of, [1], odd, thing)
                check_refused(self, NoPrime, quotient_worth, odd, thing, 0)
                check_refused(self, NoPrime, quotient_worth, odd, thing, None)
                check_refused(self, NoPrime, worths_not_kept, odd, thing, [])
                check_refused(self, NoPrime, worths_not_kept, ([], [1]), thing, odd)

    def test_each_prime(self):
        for p in FIELDS:
            self.assertIs(is_worths([(p - 1, p - 1)], p), True)
            self.assertEqual(quotient_worth(([2], [1]), p, p - 1), 2)
            self.assertEqual(worths_not_kept(([2], [1]), p, [(p - 1, 2), (0, 1)]), [1])
            self.assertEqual(quotient_of([0, 2], [0, 1], p), ([2], [1]))


class Pure(unittest.TestCase):
    def test_nothing_is_changed_and_each_list_is_new(self):
        polys = [[], [1], [2], [0, 1], [1, 2], [2, 2, 1], [1] * 14]
        for one, other in itertools.product(polys, [list(poly) for poly in polys]):
            check_pure(self, is_quotient, (one, other), 3)
            if other:
                check_pure(self, quotient_of, one, other, 3)
        for worths in [[], [(0, None), (2, 1)], [(2, 2), (1, 1)]]:
            check_pure(self, is_worths, worths, 3)
            check_pure(self, worths_not_kept, ([1, 1], [0, 1]), 3, worths)
        check_pure(self, quotient_worth, ([1, 1], [0, 1]), 3, 2)

    def test_one_list_handed_in_twice(self):
        poly = [1, 2]
        top, bottom = quotient_of(poly, poly, 3)
        self.assertEqual((top, bottom, poly), ([1], [1], [1, 2]))
        self.assertIsNot(top, bottom)

    def test_what_is_told_is_handed_in(self):
        one, other = with_roots([1, 2, 3] * 6, 97), with_roots([3, 4, 5] * 7, 97)
        told = quotient_of(one, other, 97)
        self.assertEqual(told, (with_roots([1, 2] * 6, 97), with_roots([4, 5] * 7 + [3], 97)))
        self.assertIs(is_quotient(told, 97), True)
        self.assertEqual([quotient_worth(told, 97, x) for x in [1, 3, 4]], [0, None, None])
        self.assertEqual(worths_not_kept(told, 97, [(1, 0), (3, None), (4, 0)]), [2])
        self.assertEqual(quotient_of(*told, 97), told)


if __name__ == "__main__":
    unittest.main()
