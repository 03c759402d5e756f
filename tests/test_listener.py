"""[2], [3], [4], [29]: worths that come step by step, and are taken back."""

import itertools
import random
import unittest

from things import FIELDS, NO_DEGREES, NO_FEW, NO_FIELDS, chance_quotient, check_pure, check_refused
from things import no_places, slow_quotients_fitting, slow_worths, spoil, spoiled_worths
from toldback.badworths import quotient_fitting
from toldback.errors import NoDegrees, NoNumber, NoPrime, NoWorths, TooFew, TooMany
from toldback.listener import Listener
from toldback.quotients import is_worths
from toldback.sureplaces import fewest_places, places_not_sure

METHODS = ["hear", "back", "heard", "how_many_more", "the_quotient"]
ALL_DEGREES = list(itertools.product(range(5), repeat=2))


def listener_of(p, degrees, e, worths):
    """A Listener to which the worths came."""
    made = Listener(p, degrees, e)
    for x, w in worths:
        made.hear(x, w)
    return made


def wanted(a, b, e):
    return a + b + 1 + 2 * e


def quotient_or_refusal(listener):
    """What it tells of the quotient, or the name of the refusal."""
    try:
        return listener.the_quotient()
    except TooFew:
        return "TooFew"


class ListenerTest(unittest.TestCase):
    def check_state(self, listener, worths, p, a, b, e):
        """Checks all that a Listener tells against what came."""
        self.assertEqual(repr(listener.heard()), repr(worths))
        more = wanted(a, b, e) - len(worths)
        self.assertEqual(repr(listener.how_many_more()), repr(max(0, more)))
        if more > 0:
            check_refused(self, TooFew, listener.the_quotient)
        else:
            self.assertEqual(repr(listener.the_quotient()), repr(quotient_fitting(worths, p, (a, b), e)))

    def state(self, listener):
        return repr([listener.heard(), listener.how_many_more(), quotient_or_refusal(listener)])

    def check_refused_unchanged(self, error, listener, method, *arguments):
        ahead = self.state(listener)
        check_refused(self, error, getattr(listener, method), *arguments)
        self.assertEqual(self.state(listener), ahead)


class Steps(ListenerTest):
    def test_methods_stand_in_the_class_itself(self):
        for name in METHODS:
            self.assertIn(name, vars(Listener))

    def test_a_new_one(self):
        for p, (a, b), e in itertools.product([3, 5, 97], ALL_DEGREES, range(3)):
            listener = Listener(p, (a, b), e)
            self.check_state(listener, [], p, a, b, e)
            self.assertEqual(listener.how_many_more(), wanted(a, b, e))

    def test_steps_told(self):
        listener = Listener(5, (0, 1), 0)
        self.assertEqual((listener.heard(), listener.how_many_more()), ([], 2))
        self.assertIsNone(listener.hear(1, 1))
        self.assertEqual((listener.heard(), listener.how_many_more()), ([(1, 1)], 1))
        check_refused(self, TooFew, listener.the_quotient)
        self.assertIsNone(listener.hear(0, None))
        self.assertEqual((listener.heard(), listener.how_many_more()), ([(1, 1), (0, None)], 0))
        self.assertEqual(listener.the_quotient(), ([1], [0, 1]))
        listener.hear(4, 4)
        self.assertEqual((listener.how_many_more(), listener.the_quotient()), (0, ([1], [0, 1])))
        listener.hear(2, 2)
        self.assertEqual((listener.how_many_more(), listener.the_quotient()), (0, None))
        self.assertIsNone(listener.back())
        self.assertEqual(listener.heard(), [(1, 1), (0, None), (4, 4)])
        self.assertEqual(listener.the_quotient(), ([1], [0, 1]))

    def test_chance_steps(self):
        chance = random.Random(29)
        for turn in range(60):
            p, (a, b), e = chance.choice([3, 5, 7, 13, 97]), chance.choice(ALL_DEGREES[:14]), chance.randint(0, 2)
            q = chance_quotient(chance, p, a, b)
            listener, worths = Listener(p, (a, b), e), []
            for step in range(35):
                free = [x for x in range(p) if x not in [place for place, w in worths]]
                if chance.random() < 0.3:
                    self.take_back(listener, worths)
                elif len(worths) < 12 and free:
                    [(x, w)] = slow_worths(q, p, [chance.choice(free)])
                    w = chance.choice(6 * [w] + [None, 0, p - 1])
                    listener.hear(x, w)
                    worths.append((x, w))
                self.check_state(listener, worths, p, a, b, e)

    def take_back(self, listener, worths):
        if worths:
            self.assertIsNone(listener.back())
            worths.pop()
        else:
            self.check_refused_unchanged(NoNumber, listener, "back")

    def test_each_number_of_worths(self):
        chance = random.Random(30)
        for (a, b), e in itertools.product(ALL_DEGREES, range(3)):
            p = chance.choice([p for p in FIELDS if p > 12])
            q = chance_quotient(chance, p, a, b)
            listener, worths = Listener(p, (a, b), e), []
            for x, w in slow_worths(q, p, chance.sample(range(p), 12)):
                self.check_state(listener, worths, p, a, b, e)
                listener.hear(x, w)
                worths.append((x, w))
            if wanted(a, b, e) <= 12:
                self.assertEqual(listener.the_quotient(), q)

    def test_as_if_all_came_at_once(self):
        chance = random.Random(31)
        for turn in range(40):
            p, (a, b), e = chance.choice([p for p in FIELDS if p > 12]), chance.choice(ALL_DEGREES), chance.randint(0, 2)
            if wanted(a, b, e) <= 12:
                q = chance_quotient(chance, p, a, b)
                worths = slow_worths(q, p, chance.sample(range(p), chance.randint(wanted(a, b, e), 12)))
                worths = spoiled_worths(chance, worths, p, e)
                for order in range(3):
                    chance.shuffle(worths)
                    listener = listener_of(p, (a, b), e, worths[::-1])
                    for x, w in worths:
                        listener.back()
                    for x, w in worths:
                        listener.hear(x, w)
                    self.assertEqual(listener.the_quotient(), q)
                    self.assertEqual(quotient_fitting(listener.heard(), p, (a, b), e), q)

    def test_against_a_slow_search(self):
        for row in itertools.product([None, 0, 1, 2], repeat=3):
            worths = list(zip([2, 0, 1], row))
            for a, b, e in [(0, 0, 0), (1, 0, 0), (0, 1, 0), (1, 1, 0), (0, 2, 0), (2, 0, 0), (0, 0, 1)]:
                fitting = slow_quotients_fitting(worths, 3, a, b, e)
                listener = listener_of(3, (a, b), e, worths)
                self.assertEqual([listener.the_quotient()], fitting or [None])

    def test_twelve_and_a_thirteenth(self):
        worths = slow_worths(([3, 1], [0, 1]), 97, list(range(12)))
        listener = listener_of(97, (1, 1), 2, worths)
        self.check_state(listener, worths, 97, 1, 1, 2)
        for x, w in [(12, 1), (0, None), (97, 0), (-1, 0), (None, None), ("1", []), ([], {}), (True, True), (12, 97)]:
            self.check_refused_unchanged(TooMany, listener, "hear", x, w)
        listener.back()
        listener.hear(96, None)
        self.assertEqual(listener.heard(), worths[:11] + [(96, None)])
        self.check_refused_unchanged(TooMany, listener, "hear", 11, 1)

    def test_no_place(self):
        for p in [3, 97]:
            listener = listener_of(p, (1, 1), 0, [(2, 1), (0, None)])
            for thing in no_places(p) + [2, 0]:
                for w in [0, 1, None, True, "0", -1, p, []]:
                    self.check_refused_unchanged(NoNumber, listener, "hear", thing, w)
            self.assertEqual(listener.heard(), [(2, 1), (0, None)])

    def test_no_worth(self):
        for p in [3, 97]:
            listener = listener_of(p, (1, 1), 0, [(2, 1)])
            for thing in no_places(p):
                if thing is not None:
                    self.check_refused_unchanged(NoWorths, listener, "hear", 1, thing)
                    self.check_refused_unchanged(NoNumber, listener, "hear", 2, thing)
                    self.check_refused_unchanged(NoNumber, listener, "hear", p, thing)
            for w in [0, p - 1, None]:
                listener.hear(1, w)
                self.assertEqual(listener.heard(), [(2, 1), (1, w)])
                listener.back()

    def test_a_place_taken_back_comes_again(self):
        listener = listener_of(5, (1, 0), 0, [(3, 1), (1, 2)])
        self.check_refused_unchanged(NoNumber, listener, "hear", 1, 2)
        self.check_refused_unchanged(NoNumber, listener, "hear", 3, None)
        listener.back()
        listener.hear(1, None)
        self.check_state(listener, [(3, 1), (1, None)], 5, 1, 0, 0)
        listener.back()
        listener.back()
        listener.hear(1, 0)
        listener.hear(3, 0)
        self.check_state(listener, [(1, 0), (3, 0)], 5, 1, 0, 0)
        self.assertEqual(listener.the_quotient(), ([], [1]))

    def test_back_of_none(self):
        listener = Listener(5, (1, 0), 0)
        self.check_refused_unchanged(NoNumber, listener, "back")
        listener.hear(0, 1)
        listener.back()
        self.check_refused_unchanged(NoNumber, listener, "back")
        self.check_refused_unchanged(NoNumber, listener, "back")
        listener.hear(0, 2)
        self.check_state(listener, [(0, 2)], 5, 1, 0, 0)

    def test_not_so_many_places(self):
        listener = listener_of(3, (4, 4), 2, [(0, 1), (1, 1), (2, 1)])
        self.assertIsNone(fewest_places(3, (4, 4), 2))
        self.assertEqual(listener.how_many_more(), 10)
        check_refused(self, TooFew, listener.the_quotient)
        for x in range(3):
            self.check_refused_unchanged(NoNumber, listener, "hear", x, 1)
        listener = listener_of(97, (4, 4), 2, [(x, 1) for x in range(12)])
        self.assertEqual(listener.how_many_more(), 1)
        check_refused(self, TooFew, listener.the_quotient)

    def test_sure_just_where_none_must_come(self):
        for (a, b), e, many in itertools.product(ALL_DEGREES, range(3), range(13)):
            listener = listener_of(13, (a, b), e, [(x, 1) for x in range(many)])
            sure = places_not_sure(list(range(many)), 13, (a, b), e) is None
            self.assertEqual(listener.how_many_more() == 0, sure)
            self.assertEqual(quotient_or_refusal(listener), ([1], [1]) if sure else "TooFew")

    def test_two_side_by_side(self):
        one, other = Listener(5, (1, 0), 0), Listener(7, (0, 0), 1)
        one.hear(1, 1)
        self.check_state(other, [], 7, 0, 0, 1)
        other.hear(1, 6)
        other.hear(6, None)
        self.check_state(one, [(1, 1)], 5, 1, 0, 0)
        self.check_state(other, [(1, 6), (6, None)], 7, 0, 0, 1)
        one.back()
        self.check_refused_unchanged(NoNumber, one, "back")
        self.check_state(other, [(1, 6), (6, None)], 7, 0, 0, 1)

    def test_lists_told_are_the_askers_own(self):
        worths = slow_worths(([3, 1], [0, 1]), 7, [0, 1, 2, 3])
        listener = listener_of(7, (1, 1), 0, worths)
        for name in METHODS[2:]:
            check_pure(self, getattr(listener, name))
            spoil(getattr(listener, name)())
            self.check_state(listener, worths, 7, 1, 1, 0)
        heard = listener.heard()
        listener.back()
        listener.hear(5, None)
        self.assertEqual(heard, worths)
        heard.clear()
        self.assertEqual(listener.heard(), worths[:3] + [(5, None)])
        self.assertIs(is_worths(listener.heard(), 7), True)


class Refusals(unittest.TestCase):
    def test_no_prime_ahead_of_all(self):
        for thing in NO_FIELDS:
            for degrees, e in itertools.product([(0, 0), (5, 5), None], [0, 3, True]):
                check_refused(self, NoPrime, Listener, thing, degrees, e)

    def test_no_degrees_ahead_of_no_number(self):
        for thing in NO_DEGREES:
            for e in [0, 2, 3, True, None]:
                check_refused(self, NoDegrees, Listener, 97, thing, e)

    def test_no_number(self):
        for thing in NO_FEW:
            check_refused(self, NoNumber, Listener, 3, (0, 0), thing)
            check_refused(self, NoNumber, Listener, 97, (4, 4), thing)

    def test_each_prime(self):
        for p in FIELDS:
            listener = listener_of(p, (0, 0), 0, [(p - 1, p - 1)])
            self.assertEqual(listener.the_quotient(), ([p - 1], [1]))
            check_refused(self, NoNumber, listener.hear, p, 0)
            check_refused(self, NoWorths, listener.hear, 0, p)


if __name__ == "__main__":
    unittest.main()
