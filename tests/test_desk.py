"""[2], [3], [31], [32]: the Desk and its rows."""

import itertools
import random
import unittest

from things import anything, check_refused, slow_fitting, slow_primes
from toldback.badworths import quotient_fitting
from toldback.desk import Desk
from toldback.errors import NoBounds, NoDegrees, NoName, NoNumber, NoPrime, NoReadings, NoRow, NoWorths, TooFew, TooMany
from toldback.texts import read_fraction, read_quotient, read_readings, read_worths
from toldback.texts import show_fraction, show_quotient, show_readings, show_worths

OF_HEARER = ["hear 7 4", "hear 7 -", "unhear", "readings", "fits", "one"]
OF_LISTENER = ["worth 1 2", "worth 1 -", "unworth", "worths", "more", "quotient"]
NEW_ONES = ["bounds 3 3 1", "field 5 1 1 0"]
ASKING = ["readings", "fits", "one", "worths", "more", "quotient"]
# What writes no number of one to nine figures without a 0 ahead.
NO_NUMBERS = ["1234567890", "0000000001", "00", "01", "007", "+1", "-1", "-0", "--", "1.", "1_0", "1,", "a", "x1", "0x1", "1e1"]
NO_NUMBERS += ["\u0661", "\uff11", "\u00b2", "1\u0661", "1\t", "\t1", "1\n", "None", "none", "~", "1/1", "1:1", "1\r", "1\u00a0"]


def desk_of(*rows):
    """A Desk to which these rows were said."""
    desk = Desk()
    for row in rows:
        desk.say(row)
    return desk


def answer(desk, row):
    """The answer to a row, or the class of its refusal."""
    try:
        return desk.say(row)
    except (NoName, TooFew) as refusal:
        return refusal.__class__


class DeskTest(unittest.TestCase):
    def state(self, desk):
        return [answer(desk, row) for row in ASKING]

    def check_says(self, desk, rows):
        for row, due in rows:
            self.assertEqual(repr(desk.say(row)), repr(due), row)

    def check_refused_unchanged(self, error, desk, row):
        ahead = self.state(desk)
        check_refused(self, error, desk.say, row)
        self.assertEqual(self.state(desk), ahead, row)


class Rows(DeskTest):
    def test_say_stands_in_the_class_itself(self):
        self.assertIn("say", vars(Desk))

    def test_each_row_of_a_hearer(self):
        self.check_says(Desk(), [
            ("bounds 3 3 1", "ok"), ("readings", "-"), ("fits", "15"), ("one", "none"),
            ("hear 7 4", "ok"), ("hear 11 6", "ok"), ("readings", "7:4 11:6"), ("fits", "3"), ("one", "none"),
            ("hear 13 1", "ok"), ("readings", "7:4 11:6 13:1"), ("fits", "1"), ("one", "1/2"),
            ("unhear", "ok"), ("readings", "7:4 11:6"), ("hear 2 -", "ok"), ("readings", "7:4 11:6 2:-"), ("one", "1/2"),
            ("bounds 0 1 0", "ok"), ("readings", "-"), ("fits", "1"), ("one", "0/1"),
            ("hear 2 1", "ok"), ("fits", "0"), ("one", "none"),
        ])

    def test_each_row_of_a_listener(self):
        self.check_says(Desk(), [
            ("field 5 0 1 0", "ok"), ("worths", "-"), ("more", "2"), ("worth 1 1", "ok"), ("worths", "1:1"), ("more", "1"),
            ("worth 0 -", "ok"), ("worths", "1:1 0:-"), ("more", "0"), ("quotient", "1/0,1"),
            ("worth 4 0", "ok"), ("more", "0"), ("quotient", "none"), ("unworth", "ok"), ("quotient", "1/0,1"),
            ("field 97 1 0 1", "ok"), ("worths", "-"), ("more", "4"), ("worth 96 0", "ok"), ("worth 95 96", "ok"),
            ("worth 0 1", "ok"), ("worth 1 50", "ok"), ("worths", "96:0 95:96 0:1 1:50"), ("quotient", "1,1/1"),
            ("field 3 0 0 0", "ok"), ("worth 2 0", "ok"), ("quotient", "0/1"),
        ])

    def test_tops_below_nought(self):
        desk = desk_of("bounds 60 60 0", "hear 997 996", "hear 991 990", "hear 983 982")
        self.assertEqual((desk.say("one"), desk.say("fits")), ("-1/1", "1"))

    def test_both_side_by_side(self):
        desk = desk_of("bounds 3 3 0", "field 5 1 0 0", "hear 7 4", "worth 3 2", "hear 11 6", "worth 1 -")
        self.assertEqual((desk.say("readings"), desk.say("worths")), ("7:4 11:6", "3:2 1:-"))
        desk.say("bounds 1 1 0")
        self.assertEqual((desk.say("readings"), desk.say("worths")), ("-", "3:2 1:-"))
        desk.say("hear 2 1")
        desk.say("field 7 1 0 0")
        self.assertEqual((desk.say("readings"), desk.say("worths")), ("2:1", "-"))
        desk.say("unhear")
        self.check_refused_unchanged(NoNumber, desk, "unhear")
        self.check_refused_unchanged(NoNumber, desk, "unworth")

    def test_two_desks_side_by_side(self):
        one, other = desk_of("bounds 3 3 0", "hear 7 4"), Desk()
        for row in OF_HEARER + OF_LISTENER:
            self.check_refused_unchanged(NoName, other, row)
        other.say("bounds 2 2 1")
        other.say("hear 7 1")
        other.say("field 3 0 0 0")
        self.check_refused_unchanged(NoName, one, "worths")
        one.say("hear 5 -")
        self.assertEqual((one.say("readings"), other.say("readings")), ("7:4 5:-", "7:1"))
        other.say("unhear")
        self.assertEqual((one.say("readings"), other.say("readings")), ("7:4 5:-", "-"))

    def test_numbers_of_nine_figures(self):
        desk = desk_of("bounds 60 60 999999999", "hear 2 1")
        self.assertEqual(desk.say("fits"), str(len(slow_fitting([], 60, 60, 0))))
        for row, error in [("hear 999999999 1", NoPrime), ("hear 3 999999999", NoReadings), ("bounds 999999999 1 0", NoBounds)]:
            self.check_refused_unchanged(error, desk, row)
        desk.say("field 97 1 1 1")
        for row, error in [("worth 100000000 1", NoNumber), ("worth 3 100000000", NoWorths), ("field 999999999 1 1 1", NoPrime)]:
            self.check_refused_unchanged(error, desk, row)
        for row in ["bounds 1 1 1000000000", "hear 1000000000 1", "hear 3 1000000000", "worth 1000000000 1", "worth 3 0000000001"]:
            self.check_refused_unchanged(NoRow, desk, row)
        for row in ["field 1000000000 1 1 1", "field 97 1 1 1000000000", "bounds 0000000001 1 1", "bounds 1234567890123 1 1"]:
            self.check_refused_unchanged(NoRow, desk, row)

    def test_what_is_told_is_read_back(self):
        desk = desk_of("bounds 5 5 1", "hear 11 5", "hear 2 -", "hear 997 0", "field 97 2 2 0")
        self.assertEqual(read_readings(desk.say("readings")), [(11, 5), (2, None), (997, 0)])
        for row in ["worth 0 -", "worth 1 3", "worth 2 5", "worth 3 1", "worth 4 4"]:
            desk.say(row)
        worths = read_worths(desk.say("worths"), 97)
        self.assertEqual(worths, [(0, None), (1, 3), (2, 5), (3, 1), (4, 4)])
        self.assertEqual(read_quotient(desk.say("quotient"), 97), quotient_fitting(worths, 97, (2, 2), 0))
        self.assertEqual(read_fraction(desk_of("bounds 1 1 0", "hear 3 2").say("one")), (-1, 1))

    def test_chance_rows_of_a_hearer(self):
        chance = random.Random(31)
        for turn in range(20):
            n, d, e = chance.randint(0, 9), chance.randint(1, 9), chance.choice([0, 1, 2, 20])
            desk, readings = desk_of(f"bounds {n} {d} {e}"), []
            for step in range(15):
                p = chance.choice(slow_primes()[:12])
                if readings and chance.random() < 0.3:
                    self.assertEqual(desk.say("unhear"), "ok")
                    readings.pop()
                elif p not in [q for q, rest in readings] and len(readings) < 10:
                    rest = chance.choice([None, 0, 1, p - 1])
                    self.assertEqual(desk.say(f"hear {p} {'-' if rest is None else rest}"), "ok")
                    readings.append((p, rest))
                due = slow_fitting(readings, n, d, e)
                one = show_fraction(due[0]) if len(due) == 1 else "none"
                self.assertEqual([desk.say(row) for row in ASKING[:3]], [show_readings(readings), str(len(due)), one])

    def test_chance_rows_of_a_listener(self):
        chance = random.Random(32)
        for turn in range(40):
            p, a, b, e = chance.choice([3, 7, 97]), chance.randint(0, 2), chance.randint(0, 2), chance.randint(0, 2)
            desk, worths = desk_of(f"field {p} {a} {b} {e}"), []
            for step in range(20):
                x = chance.randrange(p)
                if worths and chance.random() < 0.2:
                    self.assertEqual(desk.say("unworth"), "ok")
                    worths.pop()
                elif x not in [place for place, w in worths] and len(worths) < 12:
                    w = chance.choice([None, 0, 1, p - 1])
                    self.assertEqual(desk.say(f"worth {x} {'-' if w is None else w}"), "ok")
                    worths.append((x, w))
                more = max(0, a + b + 1 + 2 * e - len(worths))
                told = TooFew
                if more == 0:
                    found = quotient_fitting(worths, p, (a, b), e)
                    told = "none" if found is None else show_quotient(found)
                self.assertEqual([answer(desk, row) for row in ASKING[3:]], [show_worths(worths), str(more), told])


class NoRows(DeskTest):
    def desks(self):
        full = ["bounds 3 3 1", "hear 7 4", "field 5 1 1 0", "worth 1 2"]
        return [Desk(), desk_of(*full[:2]), desk_of(*full[2:]), desk_of(*full)]

    def check_no_row(self, row):
        for desk in self.desks():
            self.check_refused_unchanged(NoRow, desk, row)

    def test_blanks(self):
        for row in OF_HEARER + OF_LISTENER + NEW_ONES:
            for other in [" " + row, row + " ", "  " + row, row + "  ", row + "\n", "\n" + row, row + "\t", "\t" + row]:
                self.check_no_row(other)
            if " " in row:
                self.check_no_row(row.replace(" ", "  "))
                self.check_no_row(row.replace(" ", "  ", 1))
                self.check_no_row(row.replace(" ", "\t"))
                self.check_no_row(row.replace(" ", "\n", 1))
                self.check_no_row(row.replace(" ", ""))

    def test_words_missing_and_more(self):
        for row in OF_HEARER + OF_LISTENER + NEW_ONES:
            words = row.split(" ")
            for many in range(1, len(words)):
                self.check_no_row(" ".join(words[:many]))
            self.check_no_row(row + " 1")
            self.check_no_row(row + " -")
            self.check_no_row(row + " " + words[0])
            self.check_no_row("1 " + row)

    def test_first_words(self):
        for row in OF_HEARER + OF_LISTENER + NEW_ONES:
            first, *others = row.split(" ")
            for word in [first.upper(), first.title(), first + "s", first[:-1], "x" + first, "", "1", "-", "say", "back", "none"]:
                if word not in ["worth", "worths"]:
                    self.check_no_row(" ".join([word] + others))
        for row in ["", " ", "  ", "\n", "ok", "hearer", "listener", "heard", "worths 1 2", "readings 1", "worth", "hear", "~"]:
            self.check_no_row(row)

    def test_numbers(self):
        for row in ["hear 7 4", "worth 1 2"] + NEW_ONES:
            words = row.split(" ")
            for place, word in itertools.product(range(1, len(words)), NO_NUMBERS):
                self.check_no_row(" ".join(words[:place] + [word] + words[place + 1:]))
        for row in ["hear - 4", "hear - -", "worth - 2", "worth - -", "bounds - 1 1", "bounds 1 - 1", "bounds 1 1 -"]:
            self.check_no_row(row)
        for row in ["field - 1 1 0", "field 5 - 1 0", "field 5 1 - 0", "field 5 1 1 -"]:
            self.check_no_row(row)

    def test_nought_is_a_number(self):
        self.assertEqual(Desk().say("bounds 0 1 0"), "ok")
        self.check_refused_unchanged(NoBounds, Desk(), "bounds 1 0 0")
        self.check_refused_unchanged(NoPrime, Desk(), "field 0 0 0 0")
        self.check_refused_unchanged(NoPrime, desk_of("bounds 1 1 0"), "hear 0 0")

    def test_what_is_no_text(self):
        things = [thing for thing in anything() if not isinstance(thing, str)]
        for thing in things + [b"fits", b"bounds 1 1 0", ["fits"], ("fits",), ["bounds", 1, 1, 0], {"fits": 1}]:
            self.check_no_row(thing)


class NoNames(DeskTest):
    def test_rows_before_a_hearer_and_a_listener(self):
        for row in OF_HEARER:
            self.check_refused_unchanged(NoName, Desk(), row)
            self.check_refused_unchanged(NoName, desk_of("field 5 1 1 0", "worth 1 2"), row)
        for row in OF_LISTENER:
            self.check_refused_unchanged(NoName, Desk(), row)
            self.check_refused_unchanged(NoName, desk_of("bounds 3 3 1", "hear 7 4"), row)

    def test_ahead_of_what_the_stages_refuse(self):
        for row in ["hear 4 4", "hear 7 7", "hear 999999999 -", "worth 97 1", "worth 1 97", "worth 999999999 -"]:
            self.check_refused_unchanged(NoName, Desk(), row)

    def test_behind_what_is_no_row(self):
        for row in ["hear 4", "hear 07 4", "hear 7 4 ", "worth -1 1", "worth 1  1", "fits ", "more 1"]:
            self.check_refused_unchanged(NoRow, Desk(), row)

    def test_a_refused_new_one_is_none(self):
        desk = Desk()
        for row, error in [("bounds 61 1 0", NoBounds), ("field 2 1 1 0", NoPrime), ("field 5 5 1 0", NoDegrees)]:
            self.check_refused_unchanged(error, desk, row)
        self.check_refused_unchanged(NoName, desk, "readings")
        self.check_refused_unchanged(NoName, desk, "worths")


class StagesRefuse(DeskTest):
    def test_new_ones(self):
        for desk in [Desk(), desk_of("bounds 3 3 1", "hear 7 4", "field 5 1 1 0", "worth 1 2")]:
            for row in ["bounds 61 1 0", "bounds 1 61 0", "bounds 1 0 0", "bounds 999999999 999999999 999999999"]:
                self.check_refused_unchanged(NoBounds, desk, row)
            for row in ["field 2 1 1 0", "field 101 1 1 0", "field 4 1 1 0", "field 1 9 9 9", "field 0 0 0 3"]:
                self.check_refused_unchanged(NoPrime, desk, row)
            for row in ["field 5 5 1 0", "field 5 1 5 0", "field 97 5 5 3", "field 3 0 999999999 3"]:
                self.check_refused_unchanged(NoDegrees, desk, row)
            for row in ["field 5 1 1 3", "field 97 4 4 999999999"]:
                self.check_refused_unchanged(NoNumber, desk, row)

    def test_readings(self):
        desk = desk_of("bounds 3 3 1", "hear 7 4")
        for row in ["hear 4 1", "hear 7 4", "hear 7 7", "hear 1 -", "hear 1009 1", "hear 4 999999999", "hear 7 -"]:
            self.check_refused_unchanged(NoPrime, desk, row)
        for row in ["hear 5 5", "hear 2 2", "hear 997 997"]:
            self.check_refused_unchanged(NoReadings, desk, row)
        desk.say("unhear")
        self.check_refused_unchanged(NoNumber, desk, "unhear")
        for p in slow_primes()[:10]:
            desk.say(f"hear {p} -")
        for row in ["hear 31 1", "hear 2 1", "hear 4 1", "hear 31 31"]:
            self.check_refused_unchanged(TooMany, desk, row)
        self.check_refused_unchanged(NoRow, desk, "hear 31 -1")

    def test_worths(self):
        desk = desk_of("field 13 1 1 0", "worth 1 2")
        for row in ["worth 13 1", "worth 1 2", "worth 1 13", "worth 999999999 -", "worth 13 13"]:
            self.check_refused_unchanged(NoNumber, desk, row)
        for row in ["worth 2 13", "worth 0 999999999"]:
            self.check_refused_unchanged(NoWorths, desk, row)
        self.check_refused_unchanged(TooFew, desk, "quotient")
        desk.say("unworth")
        self.check_refused_unchanged(NoNumber, desk, "unworth")
        self.check_refused_unchanged(TooFew, desk, "quotient")
        for x in range(12):
            desk.say(f"worth {x} 1")
        for row in ["worth 12 1", "worth 0 1", "worth 13 1", "worth 12 13"]:
            self.check_refused_unchanged(TooMany, desk, row)
        self.check_refused_unchanged(NoRow, desk, "worth 12 01")
        self.assertEqual(desk.say("quotient"), "1/1")

    def test_too_few_just_where_more_must_come(self):
        for a, b, e in itertools.product([0, 2, 4], [0, 1, 4], range(3)):
            desk = desk_of(f"field 97 {a} {b} {e}")
            for many in range(13):
                wanted = a + b + 1 + 2 * e
                self.assertEqual(desk.say("more"), str(max(0, wanted - many)))
                self.assertEqual(answer(desk, "quotient"), "5/1" if many >= wanted else TooFew)
                if many < 12:
                    desk.say(f"worth {many} 5")


if __name__ == "__main__":
    unittest.main()
