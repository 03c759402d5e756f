"""[2], [3], [4], [27], [28]: whether places are sure, and the fewest that are."""

import itertools
import random
import unittest

from things import FIELDS, NO_DEGREES, NO_FEW, NO_FIELDS, GREAT_NUMBER, anything, check_pure, check_refused, no_worths
from things import slow_quotients, slow_quotients_fitting, slow_worth, slow_worths, slow_wrong_worths, spoiled_worths, with_roots
from toldback.errors import NoDegrees, NoNumber, NoPrime, NoWorths
from toldback.quotients import is_quotient, is_worths
from toldback.sureplaces import fewest_places, places_not_sure, shows_places

ALL_DEGREES = list(itertools.product(range(5), repeat=2))
SMALL = [(0, 0), (0, 1), (1, 0), (0, 2), (2, 0), (1, 1)]


def wanted(a, b, e):
    return a + b + 1 + 2 * e


def no_places_lists(p):
    """Things of any kind, none of them a rising list of at most twelve unlike places by p."""
    lists = [[1, 0], [2, 0, 1], [0, 2, 1], [0, 0], [1, 1], [0, 1, 1], [0, 0, 1], [p], [0, p], [-1], [-1, 0], [True], [False]]
    lists += [[0, True], [False, 1], [None], [0, None], ["0"], [0, "1"], [[0]], [(0, 1)], [0, [1]], [{}], [()], [GREAT_NUMBER]]
    if p > 12:
        lists += [list(range(13)), list(range(1, p))]
    return lists + [(), (0,), (0, 1), {}, {0: 1}, {0}, "", "0", b"", b"01", None, True, False, 0, 1, range(2), object(), len]


class PlacesNotSure(unittest.TestCase):
    def check_paper(self, places, p, a, b, e, paper):
        where = (places, p, a, b, e, paper)
        self.assertIsInstance(paper, tuple, where)
        q, r, worths = paper
        for one in [q, r]:
            self.assertIs(is_quotient(one, p), True, where)
            self.assertTrue(len(one[0]) - 1 <= a and len(one[1]) - 1 <= b, where)
            self.assertLessEqual(slow_wrong_worths(one, p, worths), e, where)
        self.assertNotEqual(q, r, where)
        self.assertIs(is_worths(worths, p), True, where)
        self.assertEqual([x for x, w in worths], places, where)
        self.assertIs(shows_places(places, p, (a, b), e, paper), True, where)

    def check_told(self, places, p, a, b, e):
        told = places_not_sure(places, p, (a, b), e)
        if len(places) >= wanted(a, b, e):
            self.assertIsNone(told, (places, p, a, b, e))
        else:
            self.check_paper(places, p, a, b, e, told)

    def test_all_degrees_and_numbers_of_places(self):
        chance = random.Random(27)
        for (a, b), e in itertools.product(ALL_DEGREES, range(3)):
            for many in range(13):
                for p in [13, 97] + chance.sample([p for p in FIELDS if p > 12], 2):
                    self.check_told(sorted(chance.sample(range(p), many)), p, a, b, e)

    def test_small_primes_with_all_their_places(self):
        for p in [3, 5, 7, 11]:
            for (a, b), e in itertools.product(ALL_DEGREES, range(3)):
                for many in range(p + 1):
                    self.check_told(list(range(many)), p, a, b, e)
                    self.check_told(list(range(p - many, p)), p, a, b, e)

    def test_all_places_of_three(self):
        for many in range(4):
            for places in itertools.combinations(range(3), many):
                for (a, b), e in itertools.product(ALL_DEGREES, range(3)):
                    self.check_told(list(places), 3, a, b, e)

    def test_sure_by_trying_all_worths(self):
        for p, (a, b), e in itertools.product([3, 5], SMALL, range(3)):
            if wanted(a, b, e) <= 3:
                places = list(range(p))[:wanted(a, b, e)]
                self.assertIsNone(places_not_sure(places, p, (a, b), e))
                for row in itertools.product([None] + list(range(p)), repeat=len(places)):
                    self.assertLess(len(slow_quotients_fitting(list(zip(places, row)), p, a, b, e)), 2)

    def test_nothing_is_changed_and_each_list_is_new(self):
        for many in range(6):
            for (a, b), e in itertools.product(SMALL + [(4, 4)], range(3)):
                check_pure(self, places_not_sure, [0, 1, 3, 5, 6][:many], 7, (a, b), e)


class ShowsPlaces(unittest.TestCase):
    places, p, degrees, e = [0, 2, 3], 5, (1, 1), 1

    def shows(self, *paper):
        return shows_places(self.places, self.p, self.degrees, self.e, paper)

    def test_all_quotients_and_worths_by_three(self):
        quotients = slow_quotients(1, 1, 3)
        for e in [0, 1]:
            for row in itertools.product([None, 0, 1, 2], repeat=2):
                worths = list(zip([0, 2], row))
                fitting = slow_quotients_fitting(worths, 3, 1, 0, e)
                for q, r in itertools.product(quotients, repeat=2):
                    due = q != r and q in fitting and r in fitting
                    self.assertIs(shows_places([0, 2], 3, (1, 0), e, (q, r, worths)), due, (q, r, worths, e))

    def test_one_paper_spoiled(self):
        q, r = ([1], [0, 1]), ([2], [0, 1])
        worths = [(0, None), (2, 3), (3, 4)]
        self.assertEqual([w for x, w in worths], [slow_worth(q, 5, 0), slow_worth(q, 5, 2), slow_worth(r, 5, 3)])
        self.assertIs(self.shows(q, r, worths), True)
        self.assertIs(self.shows(r, q, worths), True)
        self.assertIs(self.shows(q, q, worths), False)
        self.assertIs(self.shows(r, ([2], [0, 1]), worths), False)
        self.assertIs(self.shows(q, r, [(0, 0), (2, 3), (3, 4)]), False)
        self.assertIs(self.shows(q, r, [(0, None), (2, None), (3, 4)]), False)
        self.assertIs(self.shows(q, r, [(0, None), (2, 1), (3, 2)]), True)
        self.assertIs(self.shows(q, r, [(0, None), (2, 3), (3, 2)]), False)
        self.assertIs(self.shows(q, r, worths[:2]), False)
        self.assertIs(self.shows(q, r, worths[1:]), False)
        self.assertIs(self.shows(q, r, []), False)
        self.assertIs(self.shows(q, r, worths + [(4, 1)]), False)
        self.assertIs(self.shows(q, r, [(0, None), (2, 3), (4, 3)]), False)
        self.assertIs(self.shows(q, r, [worths[1], worths[0], worths[2]]), False)
        self.assertIs(self.shows(q, r, worths[::-1]), False)
        paper = (q, r, worths)
        self.assertIs(shows_places([0, 2, 3], 5, (1, 1), 0, paper), False)
        self.assertIs(shows_places([0, 2, 3], 5, (1, 1), 2, paper), True)
        self.assertIs(shows_places([0, 2, 3], 5, (0, 1), 1, paper), True)
        self.assertIs(shows_places([0, 2, 3], 5, (1, 0), 1, paper), False)
        self.assertIs(shows_places([0, 2, 3], 5, (4, 4), 1, paper), True)
        self.assertIs(shows_places([0, 2], 5, (1, 1), 1, paper), False)
        self.assertIs(shows_places([0, 2, 4], 5, (1, 1), 1, paper), False)
        self.assertIs(shows_places([0, 2, 3, 4], 5, (1, 1), 1, paper), False)
        self.assertIs(shows_places([], 5, (1, 1), 1, paper), False)

    def test_beyond_the_degrees(self):
        places = [1, 2]
        q, r = (with_roots([1, 2], 7), [1]), ([], [1])
        worths = [(1, 0), (2, 0)]
        self.assertIs(shows_places(places, 7, (2, 0), 0, (q, r, worths)), True)
        self.assertIs(shows_places(places, 7, (1, 1), 0, (q, r, worths)), False)
        self.assertIs(shows_places(places, 7, (1, 0), 2, (q, r, worths)), False)
        q, r = ([1], with_roots([1, 2], 7)), ([2], with_roots([1, 2], 7))
        worths = [(1, None), (2, None)]
        self.assertIs(shows_places(places, 7, (0, 2), 0, (q, r, worths)), True)
        self.assertIs(shows_places(places, 7, (2, 1), 0, (q, r, worths)), False)
        self.assertIs(shows_places(places, 7, (2, 1), 0, (r, ([3], [1]), worths)), False)
        self.assertIs(shows_places(places, 7, (0, 4), 0, (q, r, worths)), True)

    def test_no_places(self):
        self.assertIs(shows_places([], 3, (0, 0), 0, (([], [1]), ([1], [1]), [])), True)
        self.assertIs(shows_places([], 3, (0, 0), 0, (([], [1]), ([], [1]), [])), False)
        self.assertIs(shows_places([], 3, (0, 0), 0, (([0, 1], [1]), ([], [1]), [])), False)
        self.assertIs(shows_places([], 3, (0, 0), 2, (([], [1]), ([1], [1]), [(0, 1)])), False)

    def test_papers_told_then_spoiled(self):
        chance = random.Random(28)
        for (a, b), e in itertools.product(ALL_DEGREES, range(3)):
            p = chance.choice([p for p in FIELDS if p > 12])
            many = min(wanted(a, b, e) - 1, 12)
            places = sorted(chance.sample(range(p), many))
            q, r, worths = places_not_sure(places, p, (a, b), e)
            self.assertIs(shows_places(places, p, (a, b), e, (q, r, worths)), True)
            for turn in range(3):
                other = spoiled_worths(chance, worths, p, min(many, chance.randint(1, 3)))
                due = all(slow_wrong_worths(one, p, other) <= e for one in [q, r])
                self.assertIs(shows_places(places, p, (a, b), e, (q, r, other)), due)
            self.assertIs(shows_places(places, p, (a, b), e, (q, q, slow_worths(q, p, places))), False)

    def test_never_where_it_is_sure(self):
        for row in itertools.product([None, 0, 1, 2], repeat=3):
            worths = list(zip([0, 1, 2], row))
            for q, r in itertools.product(slow_quotients(1, 1, 3), repeat=2):
                self.assertIs(shows_places([0, 1, 2], 3, (1, 1), 0, (q, r, worths)), False)

    def test_quotients_by_another_prime(self):
        self.assertIs(shows_places([], 3, (4, 4), 0, (([4], [1]), ([1], [1]), [])), False)
        self.assertIs(shows_places([], 5, (4, 4), 0, (([4], [1]), ([1], [1]), [])), True)
        self.assertIs(shows_places([0], 3, (4, 4), 1, (([2], [1]), ([1], [1]), [(0, 4)])), False)
        self.assertIs(shows_places([0], 5, (4, 4), 1, (([2], [1]), ([1], [1]), [(0, 4)])), True)

    def test_other_things(self):
        q, r, worths = ([1], [0, 1]), ([2], [0, 1]), [(0, None), (2, 3), (3, 4)]
        self.assertIs(self.shows(q, r, worths), True)
        others = [[q, r, worths], (q, r), (q, r, worths, worths), (worths, q, r), (q, worths, r), (q,), (q, r, None)]
        others += [(list(q), r, worths), (q, list(r), worths), (q, r, tuple(worths)), (q, r, {}), (q, r, "worths")]
        others += [(([2], [0, 2]), r, worths), (q, ([2, 2], [0, 1, 1]), worths), (q, ([True], [0, 1]), worths), (q, None, worths)]
        others += [(q, r, [[0, None], (2, 3), (3, 4)]), (q, r, [(0, None), (2, 3), (3, 5)]), (q, r, [0, 2, 3])]
        others += [(q, r, [(False, None), (2, 3), (3, 4)]), (q, r, [(0, None), (2, 3), (3, 4), (3, 4)]), (None, None, None)]
        for thing in anything() + others:
            self.assertIs(shows_places(self.places, self.p, self.degrees, self.e, thing), False, thing)
        for thing in no_worths(5):
            self.assertIs(self.shows(q, r, thing), False, thing)

    def test_nothing_is_changed(self):
        paper = (([1], [0, 1]), ([2], [0, 1]), [(0, None), (2, 3), (3, 4)])
        check_pure(self, shows_places, [0, 2, 3], 5, (1, 1), 1, paper)


class FewestPlaces(unittest.TestCase):
    def test_each_prime_degrees_and_e(self):
        for p, (a, b), e in itertools.product(FIELDS, ALL_DEGREES, range(3)):
            many = wanted(a, b, e)
            due = many if many <= min(p, 12) else None
            self.assertEqual(repr(fewest_places(p, (a, b), e)), repr(due), (p, a, b, e))

    def test_told(self):
        self.assertEqual(fewest_places(3, (0, 0), 0), 1)
        self.assertEqual(fewest_places(3, (1, 1), 0), 3)
        self.assertIsNone(fewest_places(3, (2, 1), 0))
        self.assertEqual(fewest_places(97, (4, 3), 2), 12)
        self.assertIsNone(fewest_places(97, (4, 4), 2))
        self.assertEqual(fewest_places(11, (4, 4), 1), 11)
        self.assertIsNone(fewest_places(11, (4, 3), 2))
        self.assertEqual(fewest_places(13, (4, 3), 2), 12)

    def test_so_many_are_sure_and_fewer_are_not(self):
        for p, (a, b), e in itertools.product([3, 5, 13], ALL_DEGREES, range(3)):
            many = fewest_places(p, (a, b), e)
            if many is None:
                self.assertIsNotNone(places_not_sure(list(range(min(p, 12))), p, (a, b), e))
            else:
                self.assertIsNone(places_not_sure(list(range(many)), p, (a, b), e))
                self.assertIsNotNone(places_not_sure(list(range(many - 1)), p, (a, b), e))


class Refusals(unittest.TestCase):
    paper = (([], [1]), ([1], [1]), [])

    def check_both(self, error, places, p, degrees, e):
        check_refused(self, error, places_not_sure, places, p, degrees, e)
        for paper in [self.paper, None, (), "paper"]:
            check_refused(self, error, shows_places, places, p, degrees, e, paper)

    def test_no_prime_ahead_of_all(self):
        for thing in NO_FIELDS:
            for degrees, e in itertools.product([(0, 0), (5, 5), None], [0, 3, True]):
                check_refused(self, NoPrime, fewest_places, thing, degrees, e)
                for places in [[], [0, 1], [1, 0], None]:
                    self.check_both(NoPrime, places, thing, degrees, e)

    def test_no_worths_ahead_of_no_degrees(self):
        for p in [3, 7, 97]:
            for thing in no_places_lists(p):
                for degrees, e in itertools.product([(0, 0), (5, 5), None], [0, 3, True]):
                    self.check_both(NoWorths, thing, p, degrees, e)

    def test_twelve_places_and_thirteen(self):
        self.assertIsNone(places_not_sure(list(range(12)), 13, (0, 0), 0))
        self.assertIsNotNone(places_not_sure(list(range(1, 13)), 13, (4, 4), 2))
        self.check_both(NoWorths, list(range(13)), 13, (0, 0), 0)

    def test_no_degrees_ahead_of_no_number(self):
        for thing in NO_DEGREES:
            for e in [0, 2, 3, True, None]:
                check_refused(self, NoDegrees, fewest_places, 97, thing, e)
                for places in [[], [0, 1]]:
                    self.check_both(NoDegrees, places, 97, thing, e)

    def test_no_number(self):
        for thing in NO_FEW:
            for degrees in [(0, 0), (4, 4)]:
                check_refused(self, NoNumber, fewest_places, 97, degrees, thing)
                check_refused(self, NoNumber, fewest_places, 3, degrees, thing)
                for places in [[], [0, 1], [0, 1, 2]]:
                    self.check_both(NoNumber, places, 3, degrees, thing)


if __name__ == "__main__":
    unittest.main()
