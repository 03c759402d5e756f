"""[1] to [4]: what holds over the whole program."""

import importlib
import inspect
import itertools
import random
import unittest

from things import FIELDS, GREAT_PRIMES, all_readings_by, chance_quotient, check_refused, slow_primes, slow_readings
from things import slow_within, slow_worths, spoil, spoiled_worths
from toldback.allright import all_back, one_back
from toldback.badworths import all_quotients, quotient_fitting
from toldback.desk import Desk
from toldback.errors import BackError, NoWorths, TooFew
from toldback.fewest import fewest_asks, fewest_by_product
from toldback.hearer import Hearer
from toldback.interpolated import least_quotient, one_quotient
from toldback.listener import Listener
from toldback.polys import poly_product
from toldback.quotients import is_quotient, is_worths, quotient_of, quotient_worth, worths_not_kept
from toldback.rests import not_kept, rests_of
from toldback.somewrong import shows_fitting, told_fitting
from toldback.sure import not_sure, shows_not_sure, sure_by_product
from toldback.sureplaces import fewest_places, places_not_sure, shows_places
from toldback.texts import read_fraction, read_quotient, read_readings, read_worths
from toldback.texts import show_fraction, show_quotient, show_readings, show_worths

ALL_DEGREES = list(itertools.product(range(5), repeat=2))
SMALL = [(0, 0), (0, 1), (1, 0), (0, 2), (2, 0), (1, 1)]
INTERFACE = {
    "rests": "is_fraction(thing) is_prime(thing) rest_of(f,p) rests_of(f,primes) is_readings(thing) not_kept(f,readings)"
             " how_many_within(bounds) all_within(bounds)",
    "together": "put_together(readings) nearest_whole(readings)",
    "allright": "one_back(readings,bounds) all_back(readings,bounds)",
    "somewrong": "told_fitting(readings,bounds,e) shows_fitting(readings,bounds,e,told)",
    "sure": "not_sure(primes,bounds,e) shows_not_sure(primes,bounds,e,paper) sure_by_product(primes,bounds,e)",
    "fewest": "fewest_asks(primes,bounds,e) fewest_by_product(primes,bounds,e)",
    "hearer": "Hearer(bounds,e) Hearer.hear(self,p,rest) Hearer.back(self) Hearer.heard(self) Hearer.how_many(self)"
              " Hearer.all_fitting(self) Hearer.the_one(self) Hearer.how_many_more(self,primes)",
    "polys": "is_poly(thing,p) poly_worth(poly,p,x) poly_sum(one,other,p) poly_product(one,other,p)"
             " poly_parted(one,other,p) greatest_divisor(one,other,p)",
    "quotients": "is_quotient(thing,p) quotient_of(one,other,p) quotient_worth(q,p,x) is_worths(thing,p)"
                 " worths_not_kept(q,p,worths)",
    "interpolated": "one_quotient(worths,p,degrees) least_quotient(worths,p)",
    "badworths": "quotient_fitting(worths,p,degrees,e) all_quotients(worths,p,degrees,e)",
    "sureplaces": "places_not_sure(places,p,degrees,e) shows_places(places,p,degrees,e,paper) fewest_places(p,degrees,e)",
    "listener": "Listener(p,degrees,e) Listener.hear(self,x,w) Listener.back(self) Listener.heard(self)"
                " Listener.how_many_more(self) Listener.the_quotient(self)",
    "texts": "show_fraction(f) show_readings(readings) show_poly(poly) show_quotient(q) show_worths(worths) read_fraction(text)"
             " read_readings(text) read_poly(text,p) read_quotient(text,p) read_worths(text,p)",
    "desk": "Desk() Desk.say(self,row)",
}


def wanted(a, b, e):
    return a + b + 1 + 2 * e


def dash(number):
    return "-" if number is None else str(number)


def heard_by_hearer(bounds, e, readings):
    made = Hearer(bounds, e)
    for p, rest in readings:
        made.hear(p, rest)
    return made


def heard_by_listener(p, degrees, e, worths):
    made = Listener(p, degrees, e)
    for x, w in worths:
        made.hear(x, w)
    return made


def desk_of_readings(bounds, e, readings):
    desk = Desk()
    desk.say(f"bounds {bounds[0]} {bounds[1]} {e}")
    for p, rest in readings:
        desk.say(f"hear {p} {dash(rest)}")
    return desk


def desk_of_worths(p, degrees, e, worths):
    desk = Desk()
    desk.say(f"field {p} {degrees[0]} {degrees[1]} {e}")
    for x, w in worths:
        desk.say(f"worth {x} {dash(w)}")
    return desk


class Interface(unittest.TestCase):
    def test_names_and_arguments(self):
        for name, rows in INTERFACE.items():
            module = importlib.import_module("toldback." + name)
            for row in rows.split(" "):
                found, _, arguments = row.rstrip(")").partition("(")
                thing = module
                for part in found.split("."):
                    thing = vars(thing)[part]
                self.assertEqual(thing.__module__, "toldback." + name)
                self.assertEqual(",".join(inspect.signature(thing).parameters), arguments, row)


class Fractions(unittest.TestCase):
    def check_everywhere(self, readings, bounds, e):
        """Checks that all ways to tell back tell the same; tells all that fit."""
        hearer = heard_by_hearer(bounds, e, readings)
        fitting = hearer.all_fitting()
        for f in fitting:
            self.assertLessEqual(len(not_kept(f, readings)), e)
        told = told_fitting(readings, bounds, e)
        self.assertIs(shows_fitting(readings, bounds, e, told), True)
        self.assertEqual(len(told) - 1, min(2, len(fitting)))
        self.assertTrue(all(f in fitting for f in told[1:]))
        one = fitting[0] if len(fitting) == 1 else None
        self.assertEqual((hearer.how_many(), hearer.the_one()), (len(fitting), one))
        desk = desk_of_readings(bounds, e, readings)
        self.assertEqual(read_readings(desk.say("readings")), readings)
        self.assertEqual(desk.say("fits"), str(len(fitting)))
        self.assertEqual(desk.say("one"), "none" if one is None else show_fraction(one))
        return fitting

    def test_at_once_and_step_by_step_in_several_orders(self):
        chance = random.Random(4)
        for turn in range(25):
            n, d, e = chance.randint(1, 12), chance.randint(1, 12), chance.randint(0, 2)
            f = chance.choice(slow_within(n, d))
            readings = slow_readings(f, chance.sample(slow_primes()[:15], chance.randint(e, 8)))
            for place in chance.sample(range(len(readings)), e):
                p, rest = readings[place]
                readings[place] = (p, chance.choice([w for w in [None] + list(range(p)) if w != rest]))
            tellings = []
            for order in range(3):
                tellings.append(self.check_everywhere(readings, (n, d), e))
                chance.shuffle(readings)
            self.assertIn(f, tellings[0])
            self.assertEqual(tellings[0], tellings[1])
            self.assertEqual(tellings[0], tellings[2])

    def test_sure_just_where_no_readings_are_fitted_by_two(self):
        for primes, bounds in itertools.product([[], [2], [3], [2, 3], [3, 5], [2, 3, 5]], [(0, 2), (1, 1), (2, 1), (1, 2), (2, 2)]):
            for e in range(len(primes) + 1):
                paper = not_sure(primes, bounds, e)
                tellings = [told_fitting(readings, bounds, e)[0] for readings in all_readings_by(primes)]
                self.assertEqual(paper is None, "two" not in tellings, (primes, bounds, e))
                if paper is not None:
                    self.check_paper(primes, bounds, e, paper)

    def check_paper(self, primes, bounds, e, paper):
        f, g, readings = paper
        self.assertIs(shows_not_sure(primes, bounds, e, paper), True)
        self.assertIs(shows_fitting(readings, bounds, e, ("two", f, g)), True)
        self.assertTrue({f, g} <= set(self.check_everywhere(readings, bounds, e)))
        self.assertIs(sure_by_product(primes, bounds, e), False)

    def test_fewer_asks_than_told_are_not_sure(self):
        chance = random.Random(5)
        for turn in range(40):
            primes = sorted(chance.sample(slow_primes()[:9], chance.randint(0, 6)))
            bounds, e = (chance.randint(0, 8), chance.randint(1, 8)), chance.randint(0, min(1, len(primes)))
            told = fewest_asks(primes, bounds, e)
            if told is None:
                self.check_paper(primes, bounds, e, not_sure(primes, bounds, e))
                self.assertIsNone(fewest_by_product(primes, bounds, e))
            else:
                asks, papers = told
                self.assertIsNone(not_sure(asks, bounds, min(e, len(asks))))
                fewer = [list(row) for row in itertools.combinations(primes, len(asks) - 1)] if asks else []
                self.assertEqual(len(papers), len(fewer))
                for chosen, paper in zip(fewer, papers):
                    self.check_paper(chosen, bounds, min(e, len(chosen)), paper)

    def test_told_back_where_it_is_sure(self):
        chance = random.Random(6)
        for turn in range(30):
            bounds, e = (chance.randint(0, 60), chance.randint(1, 60)), chance.randint(0, 3)
            primes = chance.sample(GREAT_PRIMES, 10)
            f = chance.choice(slow_within(*bounds))
            hearer = Hearer(bounds, e)
            more = hearer.how_many_more(primes)
            readings = slow_readings(f, sorted(primes)[-more:])
            for place in chance.sample(range(more), e):
                readings[place] = (readings[place][0], chance.choice([None, 0, 1, 2]))
            self.assertEqual(self.check_everywhere(readings, bounds, e), [f])
            self.assertEqual(heard_by_hearer(bounds, e, readings).how_many_more([]), 0)

    def test_all_right_is_none_wrong(self):
        for f in slow_within(6, 6):
            readings = [(p, w) for p, w in zip([7, 11, 2], rests_of(f, [7, 11, 2]))]
            self.assertEqual(one_back(readings, (6, 6)), f)
            self.assertEqual(all_back(readings, (6, 6)), [f])
            self.assertEqual(self.check_everywhere(readings, (6, 6), 0), [f])
            self.assertEqual(read_fraction(show_fraction(f)), f)


class Quotients(unittest.TestCase):
    def check_everywhere(self, worths, p, degrees, e):
        """Checks that all ways to tell back tell the same; tells the one that fits, or None."""
        told = quotient_fitting(worths, p, degrees, e)
        if told is not None:
            self.assertIs(is_quotient(told, p), True)
            self.assertTrue(len(told[0]) <= degrees[0] + 1 and len(told[1]) <= degrees[1] + 1)
            self.assertLessEqual(len(worths_not_kept(told, p, worths)), e)
            self.assertEqual(read_quotient(show_quotient(told), p), told)
        listener = heard_by_listener(p, degrees, e, worths)
        self.assertEqual((listener.heard(), listener.how_many_more(), listener.the_quotient()), (worths, 0, told))
        desk = desk_of_worths(p, degrees, e, worths)
        self.assertEqual((desk.say("worths"), desk.say("more")), (show_worths(worths), "0"))
        self.assertEqual(desk.say("quotient"), "none" if told is None else show_quotient(told))
        if e == 0:
            self.assertEqual(one_quotient(worths, p, degrees), told)
        if p <= 7 and sum(degrees) <= 2:
            self.assertEqual(all_quotients(worths, p, degrees, e), [] if told is None else [told])
        return told

    def test_at_once_and_step_by_step_in_several_orders(self):
        chance = random.Random(7)
        for (a, b), e in itertools.product(ALL_DEGREES, range(3)):
            p = chance.choice([p for p in FIELDS if p >= min(wanted(a, b, e), 12)])
            if wanted(a, b, e) <= 12:
                q = chance_quotient(chance, p, a, b)
                worths = slow_worths(q, p, chance.sample(range(p), chance.randint(wanted(a, b, e), min(p, 12))))
                worths = spoiled_worths(chance, worths, p, chance.randint(0, e))
                for order in range(3):
                    self.assertEqual(self.check_everywhere(worths, p, (a, b), e), q)
                    chance.shuffle(worths)

    def test_any_worths_at_small_primes(self):
        chance = random.Random(8)
        found = []
        for p, (a, b), e in itertools.product([3, 5, 7], SMALL, range(3)):
            for turn in range(6):
                if wanted(a, b, e) <= p:
                    places = chance.sample(range(p), wanted(a, b, e))
                    found.append(self.check_everywhere([(x, chance.choice([None, 0, 1, 2])) for x in places], p, (a, b), e))
        self.assertTrue(10 < found.count(None) < len(found) - 10)

    def test_sure_just_where_no_worths_are_fitted_by_two(self):
        for many, degrees, e in itertools.product(range(4), [(0, 0), (0, 1), (1, 0), (1, 1)], range(2)):
            places = list(range(many))
            rows = itertools.product([None, 0, 1, 2], repeat=many)
            numbers = [len(all_quotients(list(zip(places, row)), 3, degrees, e)) for row in rows]
            self.assertEqual(places_not_sure(places, 3, degrees, e) is None, max(numbers) < 2, (many, degrees, e))

    def test_what_shows_that_it_is_not_sure(self):
        for p, (a, b), e in itertools.product([3, 5, 7], SMALL, range(3)):
            for many in range(min(wanted(a, b, e), p + 1)):
                places = list(range(p))[p - many:]
                q, r, worths = places_not_sure(places, p, (a, b), e)
                self.assertIs(shows_places(places, p, (a, b), e, (q, r, worths)), True)
                self.assertTrue(max(len(worths_not_kept(q, p, worths)), len(worths_not_kept(r, p, worths))) <= e)
                fitting = all_quotients(worths, p, (a, b), e)
                self.assertTrue(q in fitting and r in fitting and q != r)
                check_refused(self, TooFew, quotient_fitting, worths, p, (a, b), e)
                check_refused(self, TooFew, heard_by_listener(p, (a, b), e, worths).the_quotient)
                check_refused(self, TooFew, desk_of_worths(p, (a, b), e, worths).say, "quotient")

    def test_fewer_places_than_told_are_not_sure(self):
        chance = random.Random(9)
        for p, (a, b), e in itertools.product([3, 7, 11, 13, 97], ALL_DEGREES, range(3)):
            many = fewest_places(p, (a, b), e)
            self.assertEqual(Listener(p, (a, b), e).how_many_more(), wanted(a, b, e) if many is None else many)
            if many is not None:
                places = sorted(chance.sample(range(p), many))
                self.assertIsNone(places_not_sure(places, p, (a, b), e))
                for left_out in places:
                    fewer = [x for x in places if x != left_out]
                    paper = places_not_sure(fewer, p, (a, b), e)
                    self.assertIs(shows_places(fewer, p, (a, b), e, paper), True)
                    self.assertEqual(heard_by_listener(p, (a, b), e, paper[2]).how_many_more(), 1)

    def test_the_least_quotient_is_told_back_within_its_degrees(self):
        chance = random.Random(10)
        for turn in range(60):
            p = chance.choice(FIELDS)
            worths = [(x, chance.choice([None, 0, 1, 2])) for x in chance.sample(range(p), chance.randint(1, min(p, 8)))]
            (a, b), q = least_quotient(worths, p)
            self.assertEqual(worths_not_kept(q, p, worths), [])
            if max(a, b) <= 4 and a + b < len(worths):
                self.assertEqual(self.check_everywhere(worths, p, (a, b), 0), q)


class Together(unittest.TestCase):
    def test_what_is_told_is_handed_in(self):
        top = poly_product([1] * 13, [2] * 13, 97)
        bottom = poly_product([1, 0, 0, 1] * 3, [5, 1, 1] * 4, 97)
        q = quotient_of(top, bottom, 97)
        self.assertGreater(len(q[0]) + len(q[1]), 40)
        worths = [(x, quotient_worth(q, 97, x)) for x in range(12)]
        self.assertIs(is_worths(worths, 97), True)
        self.assertEqual(worths_not_kept(q, 97, worths), [])
        self.assertEqual(read_quotient(show_quotient(q), 97), q)
        self.assertEqual(read_worths(show_worths(worths), 97), worths)
        places = [0, 1, 2]
        self.assertIs(shows_places(places, 97, (4, 4), 2, (q, ([1], [1]), worths[:3])), False)
        check_refused(self, NoWorths, least_quotient, worths, 97)
        heard = heard_by_listener(97, (4, 4), 0, worths).heard()
        self.assertEqual(one_quotient(heard, 97, (4, 4)), None)
        self.assertEqual(show_readings(heard_by_hearer((1, 1), 0, [(2, 1)]).heard()), "2:1")

    def test_told_lists_that_are_changed_change_nothing_later(self):
        worths = [(0, None), (1, 1), (2, 4), (3, 5)]
        calls = [(least_quotient, worths, 7), (one_quotient, worths, 7, (0, 1)), (all_quotients, worths, 7, (0, 1), 1)]
        calls += [(places_not_sure, [0, 1, 2], 7, (1, 1), 1), (quotient_fitting, worths, 7, (0, 1), 1), (read_worths, "1:-", 7)]
        ahead = [repr(function(*arguments)) for function, *arguments in calls]
        for function, *arguments in calls:
            spoil(function(*arguments))
        self.assertEqual([repr(function(*arguments)) for function, *arguments in calls], ahead)

    def test_each_refusal_is_a_back_error(self):
        desk = Desk()
        for row in ["", "fits", "bounds 61 1 1", "field 2 1 1 1", "field 3 9 1 1", "field 3 1 1 9"]:
            with self.assertRaises(BackError) as caught:
                desk.say(row)
            self.assertTrue(str(caught.exception))


if __name__ == "__main__":
    unittest.main()
