"""A Desk, to which a Hearer and a Listener are spoken by rows of words."""

from toldback.errors import NoName, NoRow
from toldback.hearer import Hearer
from toldback.listener import Listener
from toldback.texts import is_figures, show_fraction, show_quotient, show_readings, show_worths

MOST_ROW_FIGURES = 9
# Behind each first word a sign for each further one: n is a number, r a number or -.
FORMS = {
    "bounds": "nnn",
    "hear": "nr",
    "unhear": "",
    "readings": "",
    "fits": "",
    "one": "",
    "field": "nnnn",
    "worth": "nr",
    "unworth": "",
    "worths": "",
    "more": "",
    "quotient": "",
}


def number_of(word, form):
    """The number that a word of this form writes, None where it is -."""
    if form == "r" and word == "-":
        return None
    if not is_figures(word, MOST_ROW_FIGURES):
        raise NoRow(f"not a number of one to {MOST_ROW_FIGURES} figures without a 0 ahead")
    return int(word)


def parts_of(row):
    """The first word of a row and the numbers behind it."""
    if not isinstance(row, str):
        raise NoRow("not a text")
    words = row.split(" ")
    first, others = words[0], words[1:]
    if first not in FORMS or len(others) != len(FORMS[first]):
        raise NoRow("not one of the rows")
    return first, [number_of(word, form) for word, form in zip(others, FORMS[first])]


def row_hear(hearer, numbers):
    """A reading comes."""
    p, rest = numbers
    hearer.hear(p, rest)
    return "ok"


def row_unhear(hearer, numbers):
    """The last reading is taken back."""
    hearer.back()
    return "ok"


def row_readings(hearer, numbers):
    """The writing of the readings."""
    return show_readings(hearer.heard())


def row_fits(hearer, numbers):
    """How many fractions fit."""
    return str(hearer.how_many())


def row_one(hearer, numbers):
    """The one fraction that fits, or none."""
    found = hearer.the_one()
    return "none" if found is None else show_fraction(found)


def row_worth(listener, numbers):
    """A worth comes."""
    x, w = numbers
    listener.hear(x, w)
    return "ok"


def row_unworth(listener, numbers):
    """The last worth is taken back."""
    listener.back()
    return "ok"


def row_worths(listener, numbers):
    """The writing of the worths."""
    return show_worths(listener.heard())


def row_more(listener, numbers):
    """How many more worths must come."""
    return str(listener.how_many_more())


def row_quotient(listener, numbers):
    """The quotient that fits, or none."""
    found = listener.the_quotient()
    return "none" if found is None else show_quotient(found)


HEARER_ROWS = {
    "hear": row_hear,
    "unhear": row_unhear,
    "readings": row_readings,
    "fits": row_fits,
    "one": row_one,
}
LISTENER_ROWS = {
    "worth": row_worth,
    "unworth": row_unworth,
    "worths": row_worths,
    "more": row_more,
    "quotient": row_quotient,
}


class Desk:
    """Takes rows, and has a Hearer and a Listener, at first none."""

    def __init__(self):
        self.hearer = None
        self.listener = None

    def say(self, row):
        """The answer to a row."""
        first, numbers = parts_of(row)
        if first in HEARER_ROWS:
            return self.say_to_hearer(first, numbers)
        if first in LISTENER_ROWS:
            return self.say_to_listener(first, numbers)
        if first == "bounds":
            n, d, e = numbers
            self.hearer = Hearer((n, d), e)
        else:
            p, a, b, e = numbers
            self.listener = Listener(p, (a, b), e)
        return "ok"

    def say_to_hearer(self, first, numbers):
        """The answer of the Hearer, where there is one."""
        if self.hearer is None:
            raise NoName("no bounds came, so there is no Hearer")
        action = HEARER_ROWS[first]
        return action(self.hearer, numbers)

    def say_to_listener(self, first, numbers):
        """The answer of the Listener, where there is one."""
        if self.listener is None:
            raise NoName("no field came, so there is no Listener")
        action = LISTENER_ROWS[first]
        return action(self.listener, numbers)
