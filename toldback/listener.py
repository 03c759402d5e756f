"""Worths that come step by step, and are taken back."""

from toldback.badworths import need_few_wrong, quotient_fitting
from toldback.errors import NoNumber, NoWorths, TooMany
from toldback.interpolated import need_degrees, places_wanted
from toldback.polys import need_field, need_place
from toldback.quotients import MOST_WORTHS
from toldback.rests import is_rest


class Listener:
    """Hears worths of a quotient within the degrees, at most e of them wrong."""

    def __init__(self, p, degrees, e):
        need_field(p)
        need_degrees(degrees)
        need_few_wrong(e)
        self.prime = p
        self.degrees = degrees
        self.most_wrong = e
        self.worths = []

    def hear(self, x, w):
        """A worth comes."""
        if len(self.worths) == MOST_WORTHS:
            raise TooMany(f"{MOST_WORTHS} worths came already")
        need_place(x, self.prime)
        if x in [place for place, worth in self.worths]:
            raise NoNumber("the place came already")
        if not is_rest(w, self.prime):
            raise NoWorths("not a worth by the prime")
        self.worths.append((x, w))

    def back(self):
        """The last worth is taken back."""
        if len(self.worths) == 0:
            raise NoNumber("there is no worth to take back")
        self.worths.pop()

    def heard(self):
        """The worths in the order in which they came."""
        return list(self.worths)

    def how_many_more(self):
        """How many more worths must come at least to be sure, 0 where none must."""
        return max(0, places_wanted(self.degrees, self.most_wrong) - len(self.worths))

    def the_quotient(self):
        """The quotient that fits, or None; refused with TooFew where more must come."""
        return quotient_fitting(self.worths, self.prime, self.degrees, self.most_wrong)
