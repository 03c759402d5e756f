"""Whether places are sure: whether no worths at them are fitted by two quotients; and the fewest that are."""

from toldback.badworths import need_few_wrong
from toldback.errors import NoWorths
from toldback.interpolated import fits_worths, need_degrees, places_wanted, zero_at
from toldback.polys import need_field, scaled
from toldback.quotients import MOST_WORTHS, is_quotient_by, is_worths_up_to, worth_of
from toldback.wholes import is_whole_below


def is_rising_places(thing, p):
    """Whether it is a list of at most twelve places, unlike and rising."""
    if not isinstance(thing, list) or len(thing) > MOST_WORTHS:
        return False
    return all(is_whole_below(x, p) for x in thing) and thing == sorted(set(thing))


def need_places_degrees_wrong(places, p, degrees, e):
    """Refuses what places_not_sure can't be asked of."""
    need_field(p)
    if not is_rising_places(places, p):
        raise NoWorths(f"not a rising list of at most {MOST_WORTHS} unlike places")
    need_degrees(degrees)
    need_few_wrong(e)


def deceiving(places, p, degrees, e):
    """Two unlike quotients with worths that both fit, of fewer places than are wanted."""
    a = degrees[0]
    many_alike = max(0, len(places) - 2 * e)
    # One quotient is twice the other: both are nought at the first a places and None at the next,
    # of which there are at most b. That leaves at most twice e places, and each is wrong at its half.
    alike, apart = places[:many_alike], places[many_alike:]
    top, bottom = zero_at(alike[:a], p), zero_at(alike[a:], p)
    q, r = (top, bottom), (scaled(top, 2, p), list(bottom))
    worths = [(x, worth_of(r if x in apart[:e] else q, p, x)) for x in places]
    return q, r, worths


def places_not_sure(places, p, degrees, e):
    """None where the places are sure, else (q, r, worths) that shows that they are not."""
    need_places_degrees_wrong(places, p, degrees, e)
    if len(places) >= places_wanted(degrees, e):
        return None
    return deceiving(places, p, degrees, e)


def is_places_paper(thing, p):
    """Whether it is a tuple of two quotients and worths by the prime."""
    if not isinstance(thing, tuple) or len(thing) != 3:
        return False
    q, r, worths = thing
    return is_quotient_by(q, p) and is_quotient_by(r, p) and is_worths_up_to(worths, p, MOST_WORTHS)


def shows_places(places, p, degrees, e, paper):
    """Whether the tuple (q, r, worths) shows that the places are not sure."""
    need_places_degrees_wrong(places, p, degrees, e)
    if not is_places_paper(paper, p):
        return False
    q, r, worths = paper
    if q == r or [x for x, w in worths] != places:
        return False
    return fits_worths(q, worths, p, degrees, e) and fits_worths(r, worths, p, degrees, e)


def fewest_places(p, degrees, e):
    """How many places are sure at the fewest, or None where there are not so many, or too many to ask."""
    need_field(p)
    need_degrees(degrees)
    need_few_wrong(e)
    wanted = places_wanted(degrees, e)
    if wanted > MOST_WORTHS or wanted > p:
        return None
    return wanted
