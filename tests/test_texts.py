"""[2], [3], [30]: fractions, readings, polynomials, quotients and worths as texts."""

import itertools
import random
import unittest

from things import FIELDS, GREAT_NUMBER, GREAT_PRIMES, NO_FIELDS, anything, chance_poly, chance_quotient, check_pure
from things import check_refused, no_polys, slow_polys, slow_primes, slow_quotients
from things import slow_readings, slow_within, slow_worths
from toldback.errors import NoPrime, NoText
from toldback.polys import poly_product
from toldback.texts import read_fraction, read_poly, read_quotient, read_readings, read_worths
from toldback.texts import show_fraction, show_poly, show_quotient, show_readings, show_worths

# Figures of other scripts, a raised and a ringed figure: isdigit or isnumeric of each is True, or int reads it.
OTHER_FIGURES = ["\u0661", "\u0967", "\uff11", "\u00b2", "\u2460", "\u00bd", "\U0001d7d9", "1\u0661", "\u0661\u0662"]
# What writes no number by figures alone, without a 0 ahead.
NO_NUMBERS = ["", "00", "01", "007", "+1", "+0", "-0", "--1", "1-", "1_0", "1.0", "1e1", "0x1", " 1", "1 ", "1\n", "\n1", "\t1"]
NO_NUMBERS += ["one", "a", "None", "1,", ",1", "1/", "/1", "1:", ":1", "(1)", "[1]", "1'", "- 1", "\x001", "1\r", "1\u00a0", "~"]
NO_NUMBERS += OTHER_FIGURES
NO_TEXTS = [thing for thing in anything() if not isinstance(thing, str)] + [b"1/2", b"-", b"0", ["1/2"], ("1/2",), ["-"], (1, 2)]
READERS_BY_PRIME = [read_poly, read_quotient, read_worths]


class Fractions(unittest.TestCase):
    def check_both_ways(self, f, text):
        self.assertEqual(show_fraction(f), text)
        self.assertEqual(repr(read_fraction(text)), repr(f))

    def test_told(self):
        self.check_both_ways((1, 2), "1/2")
        self.check_both_ways((-1, 2), "-1/2")
        self.check_both_ways((0, 1), "0/1")
        self.check_both_ways((-10, 1), "-10/1")
        self.check_both_ways((100, 101), "100/101")

    def test_all_small(self):
        for f in slow_within(25, 25):
            self.check_both_ways(f, str(f[0]) + "/" + str(f[1]))

    def test_thirty_figures_and_thirty_one(self):
        self.assertEqual(len(str(GREAT_NUMBER)), 30)
        for number in [GREAT_NUMBER, GREAT_NUMBER - 1, 10 ** 29]:
            self.check_both_ways((number, 1), f"{number}/1")
            self.check_both_ways((-number, 1), f"-{number}/1")
            self.check_both_ways((1, number), f"1/{number}")
        self.check_both_ways((-GREAT_NUMBER, GREAT_NUMBER - 1), f"-{GREAT_NUMBER}/{GREAT_NUMBER - 1}")
        for number in [10 ** 30, 10 ** 30 + 1, 10 ** 31, 10 ** 900]:
            for text in [f"{number}/1", f"-{number}/1", f"1/{number}", f"{number}/{number + 1}"]:
                check_refused(self, NoText, read_fraction, text)
        check_refused(self, NoText, read_fraction, "1" * 5000 + "/1")
        check_refused(self, NoText, read_fraction, "0" * 30 + "1/1")

    def test_no_numbers(self):
        for word in NO_NUMBERS + ["-", "-01", "-00", "-+1", "-a", "-\u0661"]:
            check_refused(self, NoText, read_fraction, word + "/1")
            check_refused(self, NoText, read_fraction, word + "/7")
            check_refused(self, NoText, read_fraction, "1/" + word)
            check_refused(self, NoText, read_fraction, "0/" + word)
            check_refused(self, NoText, read_fraction, word)

    def test_no_fractions(self):
        for text in ["2/4", "0/2", "1/0", "0/0", "-2/4", "1/-2", "-1/-2", "1/-1", "3/3", "-3/3", f"{GREAT_NUMBER}/3"]:
            check_refused(self, NoText, read_fraction, text)

    def test_other_forms(self):
        texts = ["", "-", "/", "1", "1//2", "/1/2", "1/2/", "1/2/3", "1 /2", "1/ 2", " 1/2", "1/2 ", "1/2\n", "\n1/2", "1:2"]
        for text in texts + ["1\\2", "1,2", "(1, 2)", "1/2 1/2", "1/2,1/2", "\t1/2", "1/2\t", "1 2", "none", "1/2\r\n"]:
            check_refused(self, NoText, read_fraction, text)

    def test_no_text(self):
        for thing in NO_TEXTS:
            check_refused(self, NoText, read_fraction, thing)


class PairTexts(unittest.TestCase):
    """What readings and worths have in common: a class below says how they are read."""

    def check_no_number_words(self, read):
        for word in NO_NUMBERS:
            for text in [word + ":1", "3:" + word, word + ":-", f"2:1 {word}:1", f"2:1 3:{word}", f"{word}:1 2:1"]:
                check_refused(self, NoText, read, text)

    def check_other_forms(self, read):
        texts = ["", " ", "--", "- ", " -", "- -", "-\n", ":", "2", "2:", ":1", "2:1:", ":2:1", "2:1:0", "2::1", "2:-1", "-2:1"]
        texts += ["2:1 ", " 2:1", "2:1  3:1", "2:1\t3:1", "2:1\n3:1", "2:1\n", "2 :1", "2: 1", "2:1,3:1", "2:1 -", "- 2:1", "2/1"]
        texts += ["2:--", "-:1", "-:-", "2:1 3", "2:1 :", "(2, 1)", "[]", "2:None", "2:1\r", "2:1 3:1 ", " 2:1 3:1", "2:+", "2:~"]
        for text in texts:
            check_refused(self, NoText, read, text)

    def check_no_texts(self, read):
        for thing in NO_TEXTS:
            check_refused(self, NoText, read, thing)


class Readings(PairTexts):
    def check_both_ways(self, readings, text):
        self.assertEqual(show_readings(readings), text)
        self.assertEqual(repr(read_readings(text)), repr(readings))

    def test_told(self):
        self.check_both_ways([], "-")
        self.check_both_ways([(7, 4)], "7:4")
        self.check_both_ways([(2, None)], "2:-")
        self.check_both_ways([(11, 10), (2, None), (997, 0)], "11:10 2:- 997:0")

    def test_each_prime_and_rest(self):
        for p in slow_primes():
            for rest in [0, 1, p - 1]:
                self.check_both_ways([(p, rest)], f"{p}:{rest}")
            self.check_both_ways([(p, None)], f"{p}:-")
            check_refused(self, NoText, read_readings, f"{p}:{p}")
            check_refused(self, NoText, read_readings, f"{p}:{GREAT_NUMBER}")

    def test_ten_and_eleven(self):
        readings = slow_readings((-17, 991), GREAT_PRIMES)
        text = " ".join(f"{p}:{'-' if rest is None else rest}" for p, rest in readings)
        self.check_both_ways(readings, text)
        check_refused(self, NoText, read_readings, text + " 2:1")
        check_refused(self, NoText, read_readings, "2:- " + text)
        check_refused(self, NoText, read_readings, text + " " + text)

    def test_no_readings(self):
        for text in ["4:1", "1:0", "0:0", "2:2", "2:1 2:1", "2:1 3:1 2:-", "1009:1", "3:3", f"{GREAT_NUMBER}:1", "2:1 9:1", "0:-"]:
            check_refused(self, NoText, read_readings, text)

    def test_other_texts(self):
        self.check_no_number_words(read_readings)
        self.check_other_forms(read_readings)
        self.check_no_texts(read_readings)


class Worths(PairTexts):
    def check_both_ways(self, worths, text, p):
        self.assertEqual(show_worths(worths), text)
        self.assertEqual(repr(read_worths(text, p)), repr(worths))

    def read_by_97(self, text):
        return read_worths(text, 97)

    def read_by_5(self, text):
        return read_worths(text, 5)

    def test_told(self):
        for p in FIELDS:
            self.check_both_ways([], "-", p)
            self.check_both_ways([(0, 2)], "0:2", p)
            self.check_both_ways([(p - 1, None), (0, p - 1), (1, 0)], f"{p - 1}:- 0:{p - 1} 1:0", p)

    def test_chance(self):
        chance = random.Random(30)
        for turn in range(100):
            p = chance.choice(FIELDS)
            q = chance_quotient(chance, p, 4, 4)
            worths = slow_worths(q, p, chance.sample(range(p), chance.randint(1, min(p, 12))))
            self.check_both_ways(worths, " ".join(f"{x}:{'-' if w is None else w}" for x, w in worths), p)

    def test_twelve_and_thirteen(self):
        text = " ".join(f"{x}:0" for x in range(12))
        self.check_both_ways([(x, 0) for x in range(12)], text, 13)
        check_refused(self, NoText, read_worths, text + " 12:0", 13)
        check_refused(self, NoText, read_worths, "12:- " + text, 97)

    def test_by_another_prime(self):
        for text in ["5:1", "1:5", "4:4 5:-", "0:0 1:6"]:
            check_refused(self, NoText, read_worths, text, 5)
            self.assertEqual(show_worths(read_worths(text, 7)), text)
        check_refused(self, NoText, read_worths, "0:3", 3)

    def test_a_place_twice(self):
        for text in ["0:1 0:1", "0:1 0:-", "1:1 0:1 1:1", "0:- 0:-"]:
            check_refused(self, NoText, read_worths, text, 97)

    def test_other_texts(self):
        for read in [self.read_by_97, self.read_by_5]:
            self.check_no_number_words(read)
            self.check_other_forms(read)
            self.check_no_texts(read)


class Polys(unittest.TestCase):
    def check_both_ways(self, poly, text, p):
        self.assertEqual(show_poly(poly), text)
        self.assertEqual(repr(read_poly(text, p)), repr(poly))

    def test_told(self):
        for p in FIELDS:
            self.check_both_ways([], "0", p)
            self.check_both_ways([1], "1", p)
            self.check_both_ways([0, 1], "0,1", p)
            self.check_both_ways([p - 1, 0, p - 1], f"{p - 1},0,{p - 1}", p)
        self.check_both_ways([3, 0, 1], "3,0,1", 5)
        self.check_both_ways([10, 90], "10,90", 97)

    def test_all_small(self):
        for p in [3, 5]:
            for poly in slow_polys(3, p)[1:]:
                self.check_both_ways(poly, ",".join(map(str, poly)), p)

    def test_longer_ones(self):
        chance = random.Random(31)
        for turn in range(50):
            p = chance.choice(FIELDS)
            poly = poly_product(chance_poly(chance, p, 12), chance_poly(chance, p, 12), p)
            self.check_both_ways(poly, ",".join(map(str, poly)) or "0", p)
        self.check_both_ways([96] * 60, ",".join(["96"] * 60), 97)

    def test_no_polys(self):
        for p in [3, 5, 97]:
            texts = ["0,0", "1,0", "0,0,0", "1,2,0", f"{p}", f"1,{p}", f"{p},1", f"0,{p}", f"{GREAT_NUMBER}", f"1,{10 ** 30}"]
            for text in texts + ["-1", "1,-1", "-1,1", "-0", "-"]:
                check_refused(self, NoText, read_poly, text, p)

    def test_no_numbers(self):
        for word in NO_NUMBERS:
            for text in [word, word + ",1", "1," + word, "1," + word + ",1"]:
                check_refused(self, NoText, read_poly, text, 97)

    def test_other_forms(self):
        for text in ["", ",", "1,", ",1", "1,,1", "1, 1", "1 ,1", " 1", "1 ", "1 1", "1;1", "[1]", "1\n", "0\n", " 0", "1,1/1", "1:1"]:
            check_refused(self, NoText, read_poly, text, 97)

    def test_no_text(self):
        for thing in NO_TEXTS:
            check_refused(self, NoText, read_poly, thing, 97)


class Quotients(unittest.TestCase):
    def check_both_ways(self, q, text, p):
        self.assertEqual(show_quotient(q), text)
        self.assertEqual(repr(read_quotient(text, p)), repr(q))

    def test_told(self):
        for p in FIELDS:
            self.check_both_ways(([], [1]), "0/1", p)
            self.check_both_ways(([p - 1], [1]), f"{p - 1}/1", p)
            self.check_both_ways(([1], [0, 1]), "1/0,1", p)
            self.check_both_ways(([1, 0, 2], [0, 1]), "1,0,2/0,1", p)

    def test_all_small(self):
        for p, a, b in [(3, 2, 2), (5, 1, 1)]:
            for top, bottom in slow_quotients(a, b, p):
                text = (",".join(map(str, top)) or "0") + "/" + ",".join(map(str, bottom))
                self.check_both_ways((top, bottom), text, p)

    def test_longer_ones(self):
        top, bottom = [1] + [0] * 19 + [1], [0] * 20 + [1]
        self.check_both_ways((top, bottom), "1," + "0," * 19 + "1/" + "0," * 20 + "1", 3)

    def test_no_quotients(self):
        for p in [3, 5, 97]:
            texts = ["1/0", "0/0", "0/2", "1/2", "0/0,1", "0,1/0,1", "1/1,2", "1,0/1", "0,0/1", "1/1,0", f"{p}/1", f"1/{p},1"]
            for text in texts + [f"1,1/{p - 1},0,1", "-1/1", "1/-1", "-0/1", "1/1/1", f"{10 ** 30}/1"]:
                check_refused(self, NoText, read_quotient, text, p)

    def test_by_another_prime(self):
        # 2 + x x is no product by 5, but (1 + x) (2 + x) by 3.
        self.assertEqual(read_quotient("1,1/2,0,1", 5), ([1, 1], [2, 0, 1]))
        check_refused(self, NoText, read_quotient, "1,1/2,0,1", 3)
        check_refused(self, NoText, read_quotient, "4/1", 3)

    def test_no_numbers(self):
        for word in NO_NUMBERS:
            for text in [word, word + "/1", "1/" + word, "1," + word + "/1", word + ",1/1", "1/" + word + ",1"]:
                check_refused(self, NoText, read_quotient, text, 97)

    def test_other_forms(self):
        texts = ["", "/", "1", "1/", "/1", "1//1", "1 /1", "1/ 1", " 1/1", "1/1 ", "1/1\n", "1/1 1/1", "1:1", "-", "1/1,", "1/,1"]
        for text in texts + [",1/1", "1,/1", "1\\1", "([1], [1])", "1/1\t", "none"]:
            check_refused(self, NoText, read_quotient, text, 97)

    def test_no_text(self):
        for thing in NO_TEXTS:
            check_refused(self, NoText, read_quotient, thing, 97)


class Refusals(unittest.TestCase):
    def test_no_prime_ahead(self):
        for thing in NO_FIELDS:
            for read, text in itertools.product(READERS_BY_PRIME, ["0", "1/1", "-", "", "x", None, 1, [], b"0"]):
                check_refused(self, NoPrime, read, text, thing)

    def test_numbers_that_are_no_polynomial_by_the_prime(self):
        for p in [3, 5, 97]:
            lists = [thing for thing in no_polys(p) if isinstance(thing, list) and thing != [0]]
            texts = [",".join(map(str, thing)) for thing in lists if {number.__class__ for number in thing} == {int}]
            self.assertGreater(len(texts), 10)
            for text in texts:
                check_refused(self, NoText, read_poly, text, p)
                check_refused(self, NoText, read_quotient, text + "/1", p)
                check_refused(self, NoText, read_quotient, "1/" + text, p)


class Pure(unittest.TestCase):
    def test_nothing_is_changed_and_each_list_is_new(self):
        check_pure(self, show_fraction, (-1, 2))
        check_pure(self, show_readings, [(2, None), (3, 1)])
        check_pure(self, show_readings, [])
        check_pure(self, show_poly, [3, 0, 1])
        check_pure(self, show_poly, [])
        check_pure(self, show_quotient, ([], [1]))
        check_pure(self, show_worths, [(2, None), (3, 1)])
        check_pure(self, read_fraction, "-1/2")
        check_pure(self, read_readings, "2:- 3:1")
        check_pure(self, read_readings, "-")
        check_pure(self, read_poly, "3,0,1", 5)
        check_pure(self, read_poly, "0", 5)
        check_pure(self, read_quotient, "1/1", 5)
        check_pure(self, read_quotient, "0/1", 5)
        check_pure(self, read_worths, "2:- 3:1", 5)
        check_pure(self, read_worths, "-", 5)


if __name__ == "__main__":
    unittest.main()
