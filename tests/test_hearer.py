"""[2], [3], [4], [18]: readings that come step by step, and are taken back."""

import itertools
import random
import unittest
from math import prod

from things import GREAT_NUMBER, GREAT_PRIMES, anything, anything_with_lists
from things import check_pure, check_refused, slow_enough, slow_fitting, slow_primes, slow_readings, slow_within, spoil
from toldback.errors import NoBounds, NoNumber, NoPrime, NoReadings, TooMany
from toldback.hearer import Hearer
from toldback.somewrong import told_fitting

METHODS = ["hear", "back", "heard", "how_many", "all_fitting", "the_one", "how_many_more"]
NO_BOUNDS = [[1, 1], (-1, 1), (1, 0), (True, 1), (1, True), (1, -1), (1, 1, 1), (None, 1), (1,), ("1", 1)]
NO_NUMBERS = [-1, -GREAT_NUMBER, True, False, None, "1", "", [1], (1,), {}, b"1", [], (), {1: 1}, object()]


def hearer_of(bounds, e, readings):
    """A Hearer to which the readings came."""
    made = Hearer(bounds, e)
    for p, rest in readings:
        made.hear(p, rest)
    return made


def slow_more(came, primes, n, d, e):
    """The least number of the primes that are sure with those that came, by trying all choices."""
    for many in range(len(primes) + 1):
        if any(slow_enough(came + list(chosen), n, d, e) for chosen in itertools.combinations(primes, many)):
            return many
    return None


class HearerTest(unittest.TestCase):
    def check_state(self, hearer, readings, n, d, e):
        """Checks all that a Hearer tells against what came."""
        due = slow_fitting(readings, n, d, min(e, len(readings)))
        self.assertEqual(repr(hearer.heard()), repr(readings))
        self.assertEqual(repr(hearer.all_fitting()), repr(due))
        self.assertEqual(repr(hearer.how_many()), repr(len(due)))
        self.assertEqual(repr(hearer.the_one()), repr(due[0] if len(due) == 1 else None))

    def check_refused_unchanged(self, error, hearer, method, *arguments):
        ahead = (hearer.heard(), hearer.all_fitting(), hearer.how_many_more([]))
        check_refused(self, error, getattr(hearer, method), *arguments)
        self.assertEqual((hearer.heard(), hearer.all_fitting(), hearer.how_many_more([])), ahead)


class Steps(HearerTest):
    def test_methods_stand_in_the_class_itself(self):
        for name in METHODS:
            self.assertIn(name, vars(Hearer))

    def test_a_new_one(self):
        for n, d in [(0, 1), (0, 60), (1, 1), (2, 3), (60, 60)]:
            for e in [0, 1, 11, GREAT_NUMBER]:
                self.check_state(Hearer((n, d), e), [], n, d, e)
        self.assertEqual(Hearer((0, 60), 0).the_one(), (0, 1))
        self.assertIsNone(Hearer((1, 1), 0).the_one())

    def test_steps_told(self):
        hearer = Hearer((3, 3), 1)
        self.assertIsNone(hearer.hear(7, 4))
        self.assertIsNone(hearer.hear(11, 6))
        self.assertIsNone(hearer.hear(13, 1))
        self.assertEqual(hearer.heard(), [(7, 4), (11, 6), (13, 1)])
        self.assertEqual(hearer.the_one(), (1, 2))
        self.assertEqual(hearer.how_many(), 1)
        self.assertIsNone(hearer.back())
        self.assertEqual(hearer.heard(), [(7, 4), (11, 6)])

    def test_none_and_several_fit(self):
        hearer = hearer_of((3, 3), 0, [(7, 4), (11, 6), (13, 1)])
        self.assertEqual((hearer.how_many(), hearer.all_fitting(), hearer.the_one()), (0, [], None))
        hearer = hearer_of((1, 4), 0, [(2, None)])
        self.assertEqual(hearer.all_fitting(), [(-1, 2), (1, 2), (-1, 4), (1, 4)])
        self.assertEqual((hearer.how_many(), hearer.the_one()), (4, None))

    def test_chance_steps(self):
        chance = random.Random(18)
        for turn in range(40):
            n, d, e = chance.randint(0, 8), chance.randint(1, 8), chance.choice([0, 1, 2, 12])
            f = chance.choice(slow_within(n, d))
            hearer, readings = Hearer((n, d), e), []
            for step in range(30):
                free = [p for p in slow_primes()[:14] if p not in [q for q, rest in readings]]
                if chance.random() < 0.35:
                    self.take_back(hearer, readings)
                elif len(readings) < 10:
                    p = chance.choice(free)
                    rest = chance.choice(2 * [slow_readings(f, [p])[0][1]] + [None, 0, p - 1])
                    hearer.hear(p, rest)
                    readings.append((p, rest))
                self.check_state(hearer, readings, n, d, e)

    def take_back(self, hearer, readings):
        if readings:
            self.assertIsNone(hearer.back())
            readings.pop()
        else:
            self.check_refused_unchanged(NoNumber, hearer, "back")

    def test_as_if_all_came_at_once(self):
        right = slow_readings((-17, 30), GREAT_PRIMES)
        hearer = hearer_of((60, 60), 3, [(2, 1), (3, 2)])
        hearer.back()
        hearer.back()
        for place, (p, rest) in enumerate(right):
            hearer.hear(p, (rest + 1) % p if place in [0, 5, 9] else rest)
        self.assertEqual(told_fitting(hearer.heard(), (60, 60), 3), ("one", (-17, 30)))
        self.assertEqual(hearer.the_one(), (-17, 30))
        self.check_state(hearer, hearer.heard(), 60, 60, 3)

    def test_more_wrong_than_readings(self):
        for e in [3, 4, 10, 11, GREAT_NUMBER]:
            hearer = hearer_of((2, 2), e, [(2, 1), (3, None), (5, 0)])
            self.assertEqual(hearer.all_fitting(), slow_within(2, 2))
            self.check_state(hearer, [(2, 1), (3, None), (5, 0)], 2, 2, e)

    def test_ten_readings_and_an_eleventh(self):
        readings = slow_readings((-17, 30), GREAT_PRIMES)
        hearer = hearer_of((60, 60), 0, readings)
        self.check_state(hearer, readings, 60, 60, 0)
        for p, rest in [(2, 1), (997, 1), (4, None), (None, None), ("2", []), (2, 2), ([], {}), (True, True)]:
            self.check_refused_unchanged(TooMany, hearer, "hear", p, rest)
        self.assertEqual(hearer.heard(), readings)
        hearer.back()
        hearer.hear(2, None)
        self.assertEqual(hearer.heard(), readings[:9] + [(2, None)])
        self.check_refused_unchanged(TooMany, hearer, "hear", 937, 1)

    def test_no_prime(self):
        hearer = hearer_of((3, 3), 1, [(7, 4), (2, None)])
        for thing in anything_with_lists() + [9, 961, 1009, -2, [2], (2,), "3", 7, 2]:
            for rest in [0, 1, None, True, "0", -1, 1000, []]:
                self.check_refused_unchanged(NoPrime, hearer, "hear", thing, rest)
        self.assertEqual(hearer.heard(), [(7, 4), (2, None)])

    def test_no_rest(self):
        hearer = hearer_of((3, 3), 1, [(7, 4)])
        for thing in [5, 6, -1, -5, GREAT_NUMBER, True, False, "0", "", "-", [], [0], (), (0,), {}, b"0", object()]:
            self.check_refused_unchanged(NoReadings, hearer, "hear", 5, thing)
            self.check_refused_unchanged(NoPrime, hearer, "hear", 7, thing)
            self.check_refused_unchanged(NoPrime, hearer, "hear", 6, thing)
        for rest in [0, 4, None]:
            hearer.hear(5, rest)
            self.assertEqual(hearer.heard(), [(7, 4), (5, rest)])
            hearer.back()
        for rest in [2, 3]:
            self.check_refused_unchanged(NoReadings, hearer, "hear", 2, rest)
        hearer.hear(997, 996)
        self.check_refused_unchanged(NoReadings, hearer, "hear", 991, 991)

    def test_a_prime_taken_back_comes_again(self):
        hearer = hearer_of((3, 3), 0, [(7, 4), (5, 1)])
        self.check_refused_unchanged(NoPrime, hearer, "hear", 5, 2)
        hearer.back()
        hearer.hear(5, 2)
        self.assertEqual(hearer.heard(), [(7, 4), (5, 2)])
        self.check_refused_unchanged(NoPrime, hearer, "hear", 7, 4)
        hearer.back()
        hearer.back()
        hearer.hear(5, None)
        hearer.hear(7, 0)
        self.check_state(hearer, [(5, None), (7, 0)], 3, 3, 0)

    def test_back_of_none(self):
        hearer = Hearer((3, 3), 0)
        self.check_refused_unchanged(NoNumber, hearer, "back")
        hearer.hear(2, 1)
        hearer.back()
        self.check_refused_unchanged(NoNumber, hearer, "back")
        self.check_refused_unchanged(NoNumber, hearer, "back")
        hearer.hear(2, 0)
        self.check_state(hearer, [(2, 0)], 3, 3, 0)

    def test_two_side_by_side(self):
        one, other = Hearer((2, 3), 0), Hearer((3, 1), 1)
        one.hear(5, 1)
        self.check_state(other, [], 3, 1, 1)
        other.hear(5, 2)
        other.hear(7, 3)
        self.check_state(one, [(5, 1)], 2, 3, 0)
        self.check_state(other, [(5, 2), (7, 3)], 3, 1, 1)
        one.back()
        self.check_refused_unchanged(NoNumber, one, "back")
        self.check_state(other, [(5, 2), (7, 3)], 3, 1, 1)
        self.assertEqual((one.how_many_more([11, 13]), other.how_many_more([11, 13])), (1, 2))
        self.assertEqual(one.how_many_more([5, 7]), 2)

    def test_lists_told_are_the_askers_own(self):
        hearer = hearer_of((1, 4), 0, [(2, None), (5, 2)])
        for name in METHODS[2:6]:
            check_pure(self, getattr(hearer, name))
            spoil(getattr(hearer, name)())
            self.check_state(hearer, [(2, None), (5, 2)], 1, 4, 0)
        heard = hearer.heard()
        hearer.back()
        hearer.hear(7, 0)
        self.assertEqual(heard, [(2, None), (5, 2)])
        heard.clear()
        self.assertEqual(hearer.heard(), [(2, None), (7, 0)])

    def test_refusals_of_a_new_one(self):
        more = [(61, 1), (0, 61), (60, 61), (61, 60), (GREAT_NUMBER, 1), (1, GREAT_NUMBER)]
        for thing in anything() + NO_BOUNDS + more:
            for e in [0, None, -1, True]:
                check_refused(self, NoBounds, Hearer, thing, e)
        for thing in NO_NUMBERS:
            check_refused(self, NoNumber, Hearer, (1, 1), thing)
            check_refused(self, NoNumber, Hearer, (60, 60), thing)


class HowManyMore(HearerTest):
    def test_none_nought_and_numbers(self):
        hearer = Hearer((5, 3), 0)
        self.assertIsNone(hearer.how_many_more([]))
        self.assertEqual(hearer.how_many_more([31]), 1)
        self.assertIsNone(hearer.how_many_more([29]))
        self.assertEqual(hearer.how_many_more([29, 2]), 2)
        self.assertIsNone(hearer.how_many_more([2, 3, 5]))
        self.assertEqual(hearer.how_many_more([2, 3, 5, 7]), 2)
        hearer.hear(2, 1)
        self.assertEqual(hearer.how_many_more([3, 5, 7, 17]), 1)
        self.assertEqual(hearer.how_many_more([3, 5, 7, 13]), 2)
        hearer.hear(17, None)
        self.assertEqual(hearer.how_many_more([3, 5, 7]), 0)
        self.assertEqual(hearer.how_many_more([]), 0)
        hearer.back()
        self.assertIsNone(hearer.how_many_more([]))

    def test_just_at_one_more_and_one_less(self):
        for bounds in [(15, 1), (1, 15), (5, 3), (3, 5)]:
            hearer = hearer_of(bounds, 0, [(2, 1), (3, 1)])
            self.assertIsNone(hearer.how_many_more([5]))
            self.assertEqual(hearer.how_many_more([7]), 1)
            self.assertEqual(hearer_of(bounds, 0, [(31, None)]).how_many_more([]), 0)
            self.assertIsNone(hearer_of(bounds, 0, [(29, 28)]).how_many_more([]))

    def test_chance_primes_in_any_order(self):
        chance = random.Random(19)
        found = []
        for turn in range(300):
            primes = chance.sample(slow_primes()[:chance.choice([12, 30])], chance.randint(0, 11))
            many = chance.randint(0, len(primes))
            came, others = primes[:many], primes[many:]
            n, d = chance.choice([0, 1, 4, 30, 60]), chance.choice([1, 2, 9, 60])
            e = chance.choice([0, 0, 1, 2, 3, 20])
            came = came[:10]
            due = slow_more(came, others, n, d, e)
            hearer = hearer_of((n, d), e, [(p, chance.choice([None, 0, 1])) for p in came])
            self.assertEqual(repr(hearer.how_many_more(others)), repr(due), (came, others, n, d, e))
            found.append(due)
        for number in [None, 0, 1, 2, 3, 4]:
            self.assertIn(number, found)

    def test_top_of_nought(self):
        self.assertIsNone(Hearer((0, 60), 0).how_many_more([]))
        self.assertEqual(Hearer((0, 60), 0).how_many_more([2]), 1)
        self.assertEqual(Hearer((0, 60), 2).how_many_more([2, 3, 5, 7, 11]), 5)
        self.assertIsNone(Hearer((0, 60), 2).how_many_more([2, 3, 5, 7]))
        self.assertEqual(hearer_of((0, 60), 0, [(2, 1)]).how_many_more([3]), 0)

    def test_its_own_e_whatever_came(self):
        hearer = hearer_of((1, 1), 2, [(997, 1)])
        self.assertIsNone(hearer.how_many_more([]))
        self.assertEqual(hearer.how_many_more([3, 5, 7, 11]), 4)
        self.assertIsNone(hearer.how_many_more([3, 5, 7]))
        self.assertIsNone(Hearer((1, 1), GREAT_NUMBER).how_many_more(slow_primes()[:30]))

    def test_thirty_primes_and_thirty_one(self):
        thirty = slow_primes()[-30:]
        for e in range(15):
            # Twice 60 times 60 is above any one of these primes, and below the product of any two.
            due = 2 * e + 2
            self.assertEqual(Hearer((60, 60), e).how_many_more(thirty), due)
            self.assertEqual(Hearer((60, 60), e).how_many_more(thirty[::-1]), due)
            check_refused(self, NoPrime, Hearer((60, 60), e).how_many_more, slow_primes()[-31:])
        self.assertIsNone(Hearer((60, 60), 15).how_many_more(thirty))
        hearer = hearer_of((60, 60), 19, [(p, None) for p in slow_primes()[:10]])
        self.assertIsNone(hearer.how_many_more(thirty))
        hearer = hearer_of((0, 60), 19, [(p, None) for p in slow_primes()[:10]])
        self.assertEqual(hearer.how_many_more(thirty), 29)

    def test_ten_that_came_of_great_primes(self):
        hearer = hearer_of((60, 60), 4, [(p, 1) for p in GREAT_PRIMES])
        self.assertGreater(prod(sorted(GREAT_PRIMES)[:2]), 2 * 60 * 60)
        self.assertEqual(hearer.how_many_more([2, 3]), 0)
        hearer = hearer_of((60, 60), 5, [(p, 1) for p in GREAT_PRIMES])
        self.assertIsNone(hearer.how_many_more([2, 3]))
        self.assertEqual(hearer.how_many_more([2, 907, 3, 911]), 2)

    def test_no_prime(self):
        hearer = hearer_of((3, 3), 0, [(7, 4), (997, 4)])
        hearer.hear(11, 1)
        hearer.back()
        others = [(2, 3), (), [2, 2], [2, 3, 2], [4], [1], [True], [2, True], [1009], [2, None], ["2"], [[2]], [7]]
        others += [[997], [2, 7], [7, 7], [2, 3, 997], {2: 3}, "23", 2, range(2, 4), slow_primes()[10:41]]
        for thing in anything_with_lists() + others:
            self.check_refused_unchanged(NoPrime, hearer, "how_many_more", thing)
        self.assertEqual(hearer.how_many_more([11]), 0)

    def test_one_that_was_taken_back(self):
        hearer = hearer_of((5, 3), 0, [(2, 1), (31, 4)])
        check_refused(self, NoPrime, hearer.how_many_more, [31])
        check_refused(self, NoPrime, hearer.how_many_more, [2])
        hearer.back()
        self.assertEqual(hearer.how_many_more([31]), 1)

    def test_nothing_is_changed(self):
        hearer = hearer_of((5, 3), 0, [(7, 1)])
        for primes in [[3, 2, 5], [11, 13, 2], [], [2]]:
            check_pure(self, hearer.how_many_more, primes)
        self.check_state(hearer, [(7, 1)], 5, 3, 0)


if __name__ == "__main__":
    unittest.main()
