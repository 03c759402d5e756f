"""Fractions told back from readings of which some may be wrong."""

from toldback.allright import one_back
from toldback.errors import NoNumber
from toldback.rests import SMALL_BOUND, all_within, is_bounds_up_to, is_fraction, is_within, keeps
from toldback.rests import need_bounds, need_readings
from toldback.wholes import choices, is_whole

FRACTIONS_BEHIND = {"none": 0, "one": 1, "two": 2}


def need_wrong(thing):
    """Refuses what can't be how many are wrong."""
    if not is_whole(thing) or thing < 0:
        raise NoNumber("not a whole number from 0 on")


def need_wrong_up_to(thing, most):
    """Refuses what can't be how many of so many are wrong."""
    need_wrong(thing)
    if thing > most:
        raise NoNumber(f"more wrong than the {most} that there are")


def how_many_not_kept(f, readings):
    """How many of the readings a fraction does not keep."""
    return len([reading for reading in readings if not keeps(f, reading)])


def fits(f, readings, bounds, e):
    """Whether a fraction is within the bounds and keeps all but at most e readings."""
    return is_within(f, bounds) and how_many_not_kept(f, readings) <= e


def fitting_small(readings, bounds, e):
    """All fractions within bounds of at most sixty that fit, sorted."""
    return [f for f in all_within(bounds) if how_many_not_kept(f, readings) <= e]


def fitting_great(readings, bounds, e):
    """All fractions that fit, where the product of any of the primes, e left out, is above twice n times d.

    Where it is not, one_back refuses the choice of the least primes with TooFew.
    """
    # What fits keeps all of some choice that leaves out e, and no two keep all of the same choice.
    backs = [one_back(kept, bounds) for kept in choices(readings, len(readings) - e)]
    return list({f: True for f in backs if f is not None})


def all_that_fit(readings, bounds, e):
    """All fractions that fit, or TooFew where that can't be told."""
    if is_bounds_up_to(bounds, SMALL_BOUND):
        return fitting_small(readings, bounds, e)
    return fitting_great(readings, bounds, e)


def told_fitting(readings, bounds, e):
    """None, one or two of the fractions that fit: ("none",), ("one", f) or ("two", f, g)."""
    need_readings(readings)
    need_bounds(bounds)
    need_wrong_up_to(e, len(readings))
    found = all_that_fit(readings, bounds, e)
    if len(found) == 0:
        return ("none",)
    if len(found) == 1:
        return "one", found[0]
    return "two", found[0], found[1]


def is_told(thing):
    """Whether it has one of the forms that told_fitting tells."""
    if not isinstance(thing, tuple) or len(thing) == 0 or not isinstance(thing[0], str):
        return False
    fractions = thing[1:]
    if FRACTIONS_BEHIND.get(thing[0]) != len(fractions):
        return False
    return all(is_fraction(f) for f in fractions)


def shows_fitting(readings, bounds, e, told):
    """Whether the tuple tells truly what fits."""
    due = told_fitting(readings, bounds, e)
    if not is_told(told):
        return False
    if told[0] != "two":
        return told == due
    f, g = told[1:]
    return f != g and fits(f, readings, bounds, e) and fits(g, readings, bounds, e)
