"""The fewest primes that must be asked to be sure."""

from toldback.rests import need_bounds, need_bounds_up_to
from toldback.somewrong import need_wrong_up_to
from toldback.sure import MOST_PRIMES, enough_by_product, need_rising_primes, pairs_by_distance, paper_from
from toldback.wholes import choices

MOST_ASKS = 6
MOST_BOUND_OF_ASKS = 8


def fewest_asks(primes, bounds, e):
    """The first list of the fewest that are sure, with a paper for each list of one prime fewer; or None."""
    need_rising_primes(primes, MOST_ASKS)
    need_bounds_up_to(bounds, MOST_BOUND_OF_ASKS)
    need_wrong_up_to(e, len(primes))
    pairs = pairs_by_distance(bounds)
    papers_of_fewer = []
    for many in range(len(primes) + 1):
        lists = choices(primes, many)
        papers = [paper_from(pairs, chosen, min(e, many)) for chosen in lists]
        if None in papers:
            return lists[papers.index(None)], papers_of_fewer
        papers_of_fewer = papers
    return None


def fewest_by_product(primes, bounds, e):
    """The last list of the fewest that are sure by the product alone, or None."""
    need_rising_primes(primes, MOST_PRIMES)
    need_bounds(bounds)
    need_wrong_up_to(e, len(primes))
    for many in range(len(primes) + 1):
        # The greatest so many are the last list, and sure where any so many are.
        chosen = primes[len(primes) - many:]
        if enough_by_product(chosen, bounds, e):
            return chosen
    return None
