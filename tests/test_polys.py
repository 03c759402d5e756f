"""[2], [3], [19], [20]: polynomials by a prime."""

import itertools
import random
import unittest

from things import FIELDS, NO_FIELDS, anything, chance_poly, check_pure, check_refused, no_places, no_polys
from things import slow_common, slow_poly_of, slow_poly_product, slow_poly_sum, slow_poly_worth, slow_polys, with_roots
from toldback.errors import NoNumber, NoPoly, NoPrime
from toldback.polys import greatest_divisor, is_poly, poly_parted, poly_product, poly_sum, poly_worth

OF_TWO = [poly_sum, poly_product, poly_parted, greatest_divisor]


class IsPoly(unittest.TestCase):
    def test_all_short_lists(self):
        for p in [3, 5]:
            for many in range(4):
                for numbers in itertools.product(range(-1, p + 1), repeat=many):
                    due = all(0 <= number < p for number in numbers) and (many == 0 or numbers[-1] != 0)
                    self.assertIs(is_poly(list(numbers), p), due, (numbers, p))
                    self.assertIs(is_poly(numbers, p), False, (numbers, p))

    def test_nought_and_numbers_alone(self):
        for p in FIELDS:
            self.assertIs(is_poly([], p), True)
            for number in range(-2, p + 3):
                self.assertIs(is_poly([number], p), 1 <= number < p, (number, p))
                self.assertIs(is_poly([number, 1], p), 0 <= number < p, (number, p))

    def test_long_lists(self):
        for many in [12, 13, 14, 25, 60, 61, 200]:
            self.assertIs(is_poly([0] * (many - 1) + [1], 3), True)
            self.assertIs(is_poly([96] * many, 97), True)
            self.assertIs(is_poly([96] * many, 89), False)
            self.assertIs(is_poly([1] * (many - 1) + [0], 97), False)
            self.assertIs(is_poly((1,) * many, 97), False)

    def test_anything(self):
        for p in [3, 5, 97]:
            for thing in no_polys(p) + [thing for thing in anything() if thing != [1, 2]]:
                self.assertIs(is_poly(thing, p), False, (thing, p))
        self.assertIs(is_poly([1, 2], 3), True)
        self.assertIs(is_poly([1, 3], 3), False)


class Worths(unittest.TestCase):
    def test_each_place_of_several_primes(self):
        chance = random.Random(19)
        for p in FIELDS:
            for poly in [[], [1], [p - 1], [0, 1]] + [chance_poly(chance, p, 14) for turn in range(4)]:
                for x in range(p):
                    self.assertEqual(repr(poly_worth(poly, p, x)), repr(slow_poly_worth(poly, p, x)), (poly, p, x))

    def test_told(self):
        self.assertEqual(poly_worth([3, 0, 1], 5, 4), 4)
        self.assertEqual(poly_worth([3, 0, 1], 97, 10), 6)
        self.assertEqual(poly_worth([0, 1], 3, 0), 0)
        self.assertEqual(poly_worth([96] * 40, 97, 1), 57)

    def test_no_number(self):
        for p in [3, 7, 97]:
            for thing in no_places(p):
                check_refused(self, NoNumber, poly_worth, [], p, thing)
                check_refused(self, NoNumber, poly_worth, [1, 2], p, thing)


class Sums(unittest.TestCase):
    def test_all_small(self):
        polys = slow_polys(2, 3)
        for one, other in itertools.product(polys, repeat=2):
            self.assertEqual(repr(poly_sum(one, other, 3)), repr(slow_poly_sum(one, other, 3)))

    def test_last_numbers_cancel(self):
        for p in FIELDS:
            self.assertEqual(poly_sum([1, 2], [0, p - 2], p), [1])
            self.assertEqual(poly_sum([1, 2, 1], [p - 1, p - 2, p - 1], p), [])
            self.assertEqual(poly_sum([0, 1, 2, 1], [0, 1, p - 2, p - 1], p), [0, 2])
            self.assertEqual(poly_sum([1, 0, 1], [0, 0, p - 1], p), [1])
            self.assertEqual(poly_sum([], [], p), [])
            self.assertEqual(poly_sum([0, 1], [], p), [0, 1])
            self.assertEqual(poly_sum([], [0, 1], p), [0, 1])

    def test_chance(self):
        chance = random.Random(20)
        for turn in range(300):
            p = chance.choice(FIELDS)
            one, other = chance_poly(chance, p, 16), chance_poly(chance, p, 16)
            self.assertEqual(repr(poly_sum(one, other, p)), repr(slow_poly_sum(one, other, p)), (one, other, p))


class Products(unittest.TestCase):
    def test_all_small(self):
        polys = slow_polys(2, 3)
        for one, other in itertools.product(polys, repeat=2):
            self.assertEqual(repr(poly_product(one, other, 3)), repr(slow_poly_product(one, other, 3)))

    def test_with_nought_and_one(self):
        for p in FIELDS:
            for poly in [[], [1], [p - 1], [0, 0, 1], [1] * 13]:
                self.assertEqual(poly_product(poly, [], p), [])
                self.assertEqual(poly_product([], poly, p), [])
                self.assertEqual(poly_product(poly, [1], p), poly)
                self.assertEqual(poly_product([1], poly, p), poly)

    def test_chance(self):
        chance = random.Random(21)
        for turn in range(300):
            p = chance.choice(FIELDS)
            one, other = chance_poly(chance, p, 13), chance_poly(chance, p, 13)
            self.assertEqual(repr(poly_product(one, other, p)), repr(slow_poly_product(one, other, p)), (one, other, p))


class Parted(unittest.TestCase):
    def check_parted(self, one, other, p):
        told = poly_parted(one, other, p)
        self.assertIsInstance(told, tuple)
        quotient, rest = told
        for poly in [quotient, rest]:
            self.assertEqual(repr(poly), repr(slow_poly_of(poly, p)), (one, other, p))
        self.assertLess(len(rest), len(other), (one, other, p))
        again = slow_poly_sum(slow_poly_product(quotient, other, p), rest, p)
        self.assertEqual(again, one, (one, other, p))

    def test_all_small(self):
        for one, other in itertools.product(slow_polys(3, 3), slow_polys(2, 3)):
            if other:
                self.check_parted(one, other, 3)

    def test_chance(self):
        chance = random.Random(22)
        for turn in range(400):
            p = chance.choice(FIELDS)
            one, other = chance_poly(chance, p, 20), chance_poly(chance, p, 13)
            if other:
                self.check_parted(one, other, p)

    def test_by_a_greater_degree(self):
        self.assertEqual(poly_parted([1, 2], [0, 0, 1], 5), ([], [1, 2]))
        self.assertEqual(poly_parted([], [0, 0, 1], 5), ([], []))
        self.assertEqual(poly_parted([], [4], 5), ([], []))
        self.assertEqual(poly_parted([3], [1, 1], 5), ([], [3]))

    def test_by_a_number_alone(self):
        self.assertEqual(poly_parted([1, 2, 3], [2], 5), ([3, 1, 4], []))
        self.assertEqual(poly_parted([1, 2, 3], [1], 5), ([1, 2, 3], []))
        for p in FIELDS:
            for number in range(1, p):
                self.check_parted([1, 0, p - 1], [number], p)

    def test_without_a_rest(self):
        self.assertEqual(poly_parted([4, 0, 1], [1, 1], 5), ([4, 1], []))
        self.assertEqual(poly_parted([1, 0, 1], [1, 1], 5), ([4, 1], [2]))
        self.assertEqual(poly_parted([1, 1], [1, 1], 5), ([1], []))
        self.assertEqual(poly_parted([2, 2], [1, 1], 5), ([2], []))

    def test_by_nought(self):
        for p in [3, 97]:
            for one in [[], [1], [0, 1], [1] * 14]:
                check_refused(self, NoPoly, poly_parted, one, [], p)


class Divisors(unittest.TestCase):
    def check_slow(self, one, other, p):
        common = slow_common(one, other, p)
        due = max(common, key=len)
        self.assertEqual([divisor for divisor in common if len(divisor) == len(due)], [due])
        self.assertEqual(repr(greatest_divisor(one, other, p)), repr(list(due)), (one, other, p))

    def test_all_small(self):
        for p, degree in [(3, 3), (5, 1), (7, 1)]:
            for one, other in itertools.product(slow_polys(degree, p), repeat=2):
                if one or other:
                    self.check_slow(one, other, p)

    def test_known_common_part(self):
        chance = random.Random(23)
        for turn in range(200):
            p = chance.choice([p for p in FIELDS if p >= 7])
            roots = [chance.randrange(p) for place in range(6)]
            one_more = [root for root in range(p) if root % 2 == 0 and root not in roots][:chance.randint(0, 3)]
            other_more = [root for root in range(p) if root % 2 == 1 and root not in roots][:chance.randint(0, 3)]
            common = roots[:chance.randint(0, 6)]
            factor, further = chance.randint(1, p - 1), chance.randint(1, p - 1)
            one = slow_poly_product([factor], with_roots(common + one_more, p), p)
            other = slow_poly_product([further], with_roots(common + other_more, p), p)
            self.assertEqual(repr(greatest_divisor(one, other, p)), repr(with_roots(common, p)))
            self.assertEqual(greatest_divisor(other, one, p), with_roots(common, p))

    def test_roots_that_come_twice(self):
        self.assertEqual(greatest_divisor(with_roots([1, 1, 1, 2], 97), with_roots([1, 1, 3], 97), 97), with_roots([1, 1], 97))
        self.assertEqual(greatest_divisor(with_roots([1] * 7, 3), with_roots([1] * 9, 3), 3), with_roots([1] * 7, 3))
        self.assertEqual(greatest_divisor([0] * 20 + [1], [0] * 15 + [2], 3), [0] * 15 + [1])

    def test_nought_and_another(self):
        for p in FIELDS:
            self.assertEqual(greatest_divisor([], [2], p), [1])
            self.assertEqual(greatest_divisor([2], [], p), [1])
            self.assertEqual(greatest_divisor([], [1, 1], p), [1, 1])
            self.assertEqual(greatest_divisor([0, p - 1], [], p), [0, 1])
            self.assertEqual(greatest_divisor([], [2, 2, 2], p), [1, 1, 1])

    def test_both_nought(self):
        for p in FIELDS:
            check_refused(self, NoPoly, greatest_divisor, [], [], p)

    def test_without_a_common_part(self):
        self.assertEqual(greatest_divisor([1, 1], [2, 1], 5), [1])
        self.assertEqual(greatest_divisor([3], [4], 5), [1])
        self.assertEqual(greatest_divisor([3], [0, 4], 5), [1])
        self.assertEqual(greatest_divisor([1, 0, 1], [0, 1], 3), [1])


class Refusals(unittest.TestCase):
    def test_no_prime_ahead_of_all(self):
        for thing in NO_FIELDS:
            for poly in [[], [1], [0], (1,), None, "1"]:
                check_refused(self, NoPrime, is_poly, poly, thing)
                for x in [0, -1, None, True]:
                    check_refused(self, NoPrime, poly_worth, poly, thing, x)
                for function in OF_TWO:
                    check_refused(self, NoPrime, function, poly, [1], thing)
                    check_refused(self, NoPrime, function, [1], poly, thing)
                    check_refused(self, NoPrime, function, poly, poly, thing)

    def test_each_prime(self):
        for p in FIELDS:
            self.assertIs(is_poly([2], p), True)
            self.assertEqual(poly_worth([2], p, p - 1), 2)
            self.assertEqual([function([2], [1], p) for function in OF_TWO], [slow_poly_of([3], p), [2], ([2], []), [1]])
        for number in range(-5, 120):
            if number not in FIELDS:
                check_refused(self, NoPrime, is_poly, [1], number)

    def test_no_poly(self):
        for p in [3, 5, 97]:
            for thing in no_polys(p):
                for function in OF_TWO:
                    check_refused(self, NoPoly, function, thing, [1], p)
                    check_refused(self, NoPoly, function, [1], thing, p)
                    check_refused(self, NoPoly, function, thing, thing, p)
                    check_refused(self, NoPoly, function, thing, [], p)
                for x in [0, 1] + no_places(p):
                    check_refused(self, NoPoly, poly_worth, thing, p, x)


class Pure(unittest.TestCase):
    def test_nothing_is_changed_and_each_list_is_new(self):
        polys = [[], [1], [2], [0, 1], [1, 2], [2, 2, 1], [1] * 13]
        for one, other in itertools.product(polys, [list(poly) for poly in polys]):
            check_pure(self, poly_sum, one, other, 3)
            check_pure(self, poly_product, one, other, 3)
            if other:
                check_pure(self, poly_parted, one, other, 3)
                check_pure(self, greatest_divisor, one, other, 3)
        for poly in polys:
            check_pure(self, is_poly, poly, 3)
            check_pure(self, poly_worth, poly, 3, 2)

    def test_one_list_handed_in_twice(self):
        poly = [1, 2]
        self.assertEqual(poly_sum(poly, poly, 3), [2, 1])
        self.assertEqual(poly_product(poly, poly, 3), [1, 1, 1])
        self.assertEqual(poly_parted(poly, poly, 3), ([1], []))
        self.assertEqual(greatest_divisor(poly, poly, 3), [2, 1])
        self.assertEqual(poly, [1, 2])

    def test_what_is_told_is_handed_in(self):
        told = [1, 1]
        for turn in range(5):
            told = poly_product(told, told, 97)
        self.assertEqual(len(told), 33)
        self.assertIs(is_poly(told, 97), True)
        self.assertEqual(poly_worth(told, 97, 1), 2 ** 32 % 97)
        self.assertEqual(poly_sum(told, [], 97), told)
        self.assertEqual(poly_parted(poly_product(told, told, 97), told, 97), (told, []))
        self.assertEqual(greatest_divisor(told, poly_product(told, [5, 2], 97), 97), told)


if __name__ == "__main__":
    unittest.main()
