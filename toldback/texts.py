"""Fractions, readings, polynomials, quotients and worths as texts, written and read back."""

from toldback.errors import NoText
from toldback.polys import is_poly_by, need_field
from toldback.quotients import MOST_WORTHS, is_quotient_by, is_worths_up_to
from toldback.rests import is_fraction, is_readings

MOST_FIGURES = 30


def is_figures(word, most):
    """Whether a text writes a number from 0 on by at most so many figures, no 0 ahead of others."""
    # isdigit alone takes the figures of other scripts, too.
    if not word.isascii() or not word.isdigit() or len(word) > most:
        return False
    return word == "0" or not word.startswith("0")


def show_rest(rest):
    """A rest or a worth by its figures, None as -."""
    return "-" if rest is None else str(rest)


def show_pairs(pairs):
    """Readings or worths, parted by single blanks, - without any."""
    if len(pairs) == 0:
        return "-"
    return " ".join([f"{one}:{show_rest(other)}" for one, other in pairs])


def show_fraction(f):
    """The writing of a fraction."""
    top, bottom = f
    return f"{top}/{bottom}"


def show_readings(readings):
    """The writing of readings."""
    return show_pairs(readings)


def show_poly(poly):
    """The writing of a polynomial."""
    if len(poly) == 0:
        return "0"
    return ",".join([str(number) for number in poly])


def show_quotient(q):
    """The writing of a quotient."""
    top, bottom = q
    return f"{show_poly(top)}/{show_poly(bottom)}"


def show_worths(worths):
    """The writing of worths."""
    return show_pairs(worths)


def need_text(thing):
    """Refuses what is no text."""
    if not isinstance(thing, str):
        raise NoText("not a text")


def two_parts(text, sign):
    """What stands ahead of the sign and what behind it, where it stands once."""
    parts = text.split(sign)
    if len(parts) != 2:
        raise NoText(f"not two parts with a {sign} between")
    return parts[0], parts[1]


def number_in(word):
    """The number from 0 on that a word writes."""
    if not is_figures(word, MOST_FIGURES):
        raise NoText(f"not a number of at most {MOST_FIGURES} figures without a 0 ahead")
    return int(word)


def whole_in(word):
    """The whole number that a word writes, a - ahead of one below 0."""
    if not word.startswith("-"):
        return number_in(word)
    number = number_in(word[1:])
    if number == 0:
        raise NoText("0 has no sign")
    return -number


def rest_in(word):
    """The rest or the worth that a word writes, - as None."""
    if word == "-":
        return None
    return number_in(word)


def pair_in(word):
    """The reading or the worth with its place that a word writes."""
    one, other = two_parts(word, ":")
    return number_in(one), rest_in(other)


def pairs_in(text):
    """The readings or the worths that a text writes."""
    if text == "-":
        return []
    return [pair_in(word) for word in text.split(" ")]


def poly_in(text):
    """The numbers of the polynomial that a text writes."""
    if text == "0":
        return []
    return [number_in(word) for word in text.split(",")]


def read_fraction(text):
    """The fraction that a text writes."""
    need_text(text)
    top, bottom = two_parts(text, "/")
    f = (whole_in(top), number_in(bottom))
    if not is_fraction(f):
        raise NoText("these numbers are no fraction in lowest terms")
    return f


def read_readings(text):
    """The readings that a text writes."""
    need_text(text)
    readings = pairs_in(text)
    if not is_readings(readings):
        raise NoText("these numbers are no readings")
    return readings


def read_poly(text, p):
    """The polynomial by the prime that a text writes."""
    need_field(p)
    need_text(text)
    poly = poly_in(text)
    if not is_poly_by(poly, p):
        raise NoText("these numbers are no polynomial by the prime")
    return poly


def read_quotient(text, p):
    """The quotient by the prime that a text writes."""
    need_field(p)
    need_text(text)
    top, bottom = two_parts(text, "/")
    q = (poly_in(top), poly_in(bottom))
    if not is_quotient_by(q, p):
        raise NoText("these polynomials are no quotient by the prime")
    return q


def read_worths(text, p):
    """The worths by the prime that a text writes."""
    need_field(p)
    need_text(text)
    worths = pairs_in(text)
    if not is_worths_up_to(worths, p, MOST_WORTHS):
        raise NoText("these numbers are no worths by the prime")
    return worths
