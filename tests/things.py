"""What several tests share: odd things of all kinds, and slow ways that are plainly right."""

import copy
import itertools
from functools import cache
from math import gcd, prod

GREAT_PRIMES = [997, 991, 983, 977, 971, 967, 953, 947, 941, 937]
GREAT_NUMBER = 10 ** 30 - 1


def anything():
    """Things of any kind, none of them a fraction, bounds, a prime or readings."""
    return [
        None, True, False, 0, 1, -1, 4, -7, 1000, GREAT_NUMBER, -GREAT_NUMBER, 10 ** 90,
        "", "2", "text", "(1, 2)", b"", b"12", [None], [True], [[]], [()], [{}], ["2"],
        [[1, 2]], [[2, 1]], [1, 2], [0, [1, (2, 3)]], (), (None,), (1,), (1, 2, 3), ((1, 2),),
        ([1], [2]), ((1, 2), (3, 4)), (None, None), (None, 1), (1, None), ("1", "2"), (1, "2"),
        ("1", 2), (True, 1), (False, 1), (1, True), (True, True), (0, False), (4, 0), (1, -1),
        (-1, -2), ({}, {}), ((), ()), ([], []), {}, {1: 2}, {2: None}, {"a": [1, (2,)]}, {0: 1, 1: 2},
        set(), {1, 2}, frozenset([1, 2]), range(2), object(), len, int, lambda: 1,
    ]


def anything_with_lists():
    """The things of any kind, and lists of more of them."""
    return anything() + [[thing] for thing in anything()] + [[2, thing] for thing in anything()]


def slow_primes():
    """The primes below a thousand, by striking out the products."""
    struck = {a * b for a in range(2, 32) for b in range(a, 500) if a * b < 1000}
    return [number for number in range(2, 1000) if number not in struck]


@cache
def slow_rest(f, p):
    """The rest of a fraction by trying each."""
    fitting = [w for w in range(p) if (w * f[1] - f[0]) % p == 0]
    if f[1] % p == 0:
        return None
    assert len(fitting) == 1
    return fitting[0]


def slow_readings(f, primes):
    """The readings of a fraction by the primes."""
    return [(p, slow_rest(f, p)) for p in primes]


@cache
def all_within_once(n, d):
    """All fractions within bounds, sorted, as a tuple."""
    pairs = [(top, bottom) for top in range(-n, n + 1) for bottom in range(1, d + 1)]
    return tuple(sorted([f for f in pairs if gcd(*f) == 1], key=lambda f: (f[1], f[0])))


def slow_within(n, d):
    """All fractions within bounds, sorted."""
    return list(all_within_once(n, d))


def slow_back(readings, n, d):
    """All fractions within bounds that keep all readings, sorted."""
    return [f for f in slow_within(n, d) if all(slow_rest(f, p) == rest for p, rest in readings)]


def slow_wrong(f, readings):
    """How many of the readings a fraction does not keep."""
    return sum(slow_rest(f, p) != rest for p, rest in readings)


def slow_fitting(readings, n, d, e):
    """All fractions within bounds that keep all but at most e readings, sorted."""
    return [f for f in slow_within(n, d) if slow_wrong(f, readings) <= e]


def all_readings_by(primes):
    """All readings by the primes, in their order."""
    choices = [[(p, rest) for rest in [None] + list(range(p))] for p in primes]
    return [list(chosen) for chosen in itertools.product(*choices)]


def slow_enough(primes, n, d, e):
    """Whether each product of the primes, twice e of them left out, is above twice n times d."""
    if 2 * e >= len(primes):
        return False
    return all(prod(kept) > 2 * n * d for kept in itertools.combinations(primes, len(primes) - 2 * e))


def lists_within(thing):
    """All lists and dicts that a thing is or holds, each as often as it does."""
    if isinstance(thing, dict):
        return [thing] + [found for part in thing.values() for found in lists_within(part)]
    if isinstance(thing, (list, tuple)):
        held = [found for part in thing for found in lists_within(part)]
        return [thing] + held if isinstance(thing, list) else held
    return []


def spoil(thing):
    """Changes every list and dict that a thing is or holds."""
    for found in lists_within(thing):
        if isinstance(found, dict):
            found.clear()
        else:
            found.append("changed")
            found.reverse()


def check_pure(case, function, *arguments):
    """Checks that a call changes nothing handed in, and that changing its answer changes no later one."""
    ahead = copy.deepcopy(arguments)
    first = function(*arguments)
    case.assertEqual(repr(arguments), repr(ahead))
    second = function(*arguments)
    owned = [id(found) for found in lists_within((first, second, arguments))]
    case.assertEqual(len(set(owned)), len(owned), "a list is shared")
    told = copy.deepcopy(first)
    case.assertEqual(repr(second), repr(told))
    spoil(first)
    case.assertEqual(repr(second), repr(told))
    case.assertEqual(repr(function(*arguments)), repr(told))
    case.assertEqual(repr(arguments), repr(ahead))
    return told


def check_refused(case, error, function, *arguments):
    """Checks that a call is refused with just this error, with a text, and changes nothing."""
    ahead = repr(arguments)
    try:
        told = function(*arguments)
    except error as refusal:
        case.assertEqual(refusal.__class__, error)
        case.assertEqual(len(refusal.args), 1)
        case.assertIsInstance(refusal.args[0], str)
        case.assertEqual(str(refusal), refusal.args[0])
    else:
        case.fail(f"{function.__name__}{ahead} told {told!r}, {error.__name__} is due")
    case.assertEqual(repr(arguments), ahead)
