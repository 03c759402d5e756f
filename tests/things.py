"""What several tests share: odd things of all kinds, and slow ways that are plainly right."""

import copy
import itertools
from functools import cache
from math import gcd, prod

from toldback.quotients import quotient_of

GREAT_PRIMES = [997, 991, 983, 977, 971, 967, 953, 947, 941, 937]
GREAT_NUMBER = 10 ** 30 - 1


def anything():
    """Things of any kind, none of them a fraction, bounds, a prime or readings."""
    return [
        None, True, False, 0, 1, -1, 4, -7, 1000, GREAT_NUMBER, -GREAT_NUMBER, 10 ** 90,
        "", "2", "text", "(1, 2)", b"", b"12", [None], [True], [[]], [()], [{}], ["2"],
        [[1, 2]], [[2, 1]], [1, 2], [0, [1, (2, 3)]], (), (None,), (1,), (1, 2, 3), ((1, 2),),
        ([1], [2]), ((1, 2), (3, 4)), (None, None), (None, 1), (1, None), ("1", "2"), (1, "2"),
        ("1", 2), (True, 1), (False, 1), (1, True), (True, True), (0, False), (4, 0), (1, -1),
        (-1, -2), ({}, {}), ((), ()), ([], []), {}, {1: 2}, {2: None}, {"a": [1, (2,)]}, {0: 1, 1: 2},
        set(), {1, 2}, frozenset([1, 2]), range(2), object(), len, int, lambda: 1,
    ]


def anything_with_lists():
    """The things of any kind, and lists of more of them."""
    return anything() + [[thing] for thing in anything()] + [[2, thing] for thing in anything()]


def slow_primes():
    """The primes below a thousand, by striking out the products."""
    struck = {a * b for a in range(2, 32) for b in range(a, 500) if a * b < 1000}
    return [number for number in range(2, 1000) if number not in struck]


@cache
def slow_rest(f, p):
    """The rest of a fraction by trying each."""
    fitting = [w for w in range(p) if (w * f[1] - f[0]) % p == 0]
    if f[1] % p == 0:
        return None
    assert len(fitting) == 1
    return fitting[0]


def slow_readings(f, primes):
    """The readings of a fraction by the primes."""
    return [(p, slow_rest(f, p)) for p in primes]


@cache
def all_within_once(n, d):
    """All fractions within bounds, sorted, as a tuple."""
    pairs = [(top, bottom) for top in range(-n, n + 1) for bottom in range(1, d + 1)]
    return tuple(sorted([f for f in pairs if gcd(*f) == 1], key=lambda f: (f[1], f[0])))


def slow_within(n, d):
    """All fractions within bounds, sorted."""
    return list(all_within_once(n, d))


def slow_back(readings, n, d):
    """All fractions within bounds that keep all readings, sorted."""
    return [f for f in slow_within(n, d) if all(slow_rest(f, p) == rest for p, rest in readings)]


def slow_wrong(f, readings):
    """How many of the readings a fraction does not keep."""
    return sum(slow_rest(f, p) != rest for p, rest in readings)


def slow_fitting(readings, n, d, e):
    """All fractions within bounds that keep all but at most e readings, sorted."""
    return [f for f in slow_within(n, d) if slow_wrong(f, readings) <= e]


def all_readings_by(primes):
    """All readings by the primes, in their order."""
    choices = [[(p, rest) for rest in [None] + list(range(p))] for p in primes]
    return [list(chosen) for chosen in itertools.product(*choices)]


def slow_enough(primes, n, d, e):
    """Whether each product of the primes, twice e of them left out, is above twice n times d."""
    if 2 * e >= len(primes):
        return False
    return all(prod(kept) > 2 * n * d for kept in itertools.combinations(primes, len(primes) - 2 * e))


FIELDS = [p for p in slow_primes() if 3 <= p <= 97]
NO_FIELDS = [
    2, 101, 103, 997, 1009, 1, 0, -3, -5, -97, 4, 9, 49, 91, 95, 98, 99, 100, GREAT_NUMBER, 10 ** 90, True, False, None,
    "3", "97", "", b"3", [], [3], (3,), (), {}, {3: 3}, {3}, object(), int,
]
NO_DEGREES = [
    (5, 0), (0, 5), (4, 5), (5, 4), (-1, 0), (0, -1), (-1, -1), [0, 0], [1, 2], (0,), (), (0, 0, 0), (1, 2, 3), (True, 0),
    (0, True), (False, 0), (0, False), (None, 0), (0, None), ("1", 1), (1, "1"), ([1], 1), (1, (1,)), (GREAT_NUMBER, 0),
    (0, GREAT_NUMBER), 0, 1, 2, None, True, False, "", "00", "(0, 0)", {}, {0: 0}, {0: 1, 1: 2}, {0, 1}, [], object(), b"00",
]
NO_FEW = [3, 4, -1, GREAT_NUMBER, -GREAT_NUMBER, True, False, None, "1", "", b"1", [], [1], (), (1,), {}, {1: 1}, object()]


def no_places(p):
    """Things of any kind, none of them a number from 0 to p - 1."""
    numbers = [p, p + 1, 2 * p, -1, -p, GREAT_NUMBER, -GREAT_NUMBER, 10 ** 90, True, False]
    return numbers + [None, "", "0", "1", "-", b"0", [], [0], (), (0,), {}, {0: 0}, {0}, object(), len]


def no_polys(p):
    """Things of any kind, none of them a polynomial by p."""
    lists = [[0], [0, 0], [1, 0], [1, 2, 0], [p], [1, p], [p, 1], [-1], [-1, 1], [1, -1], [True], [1, True], [True, 1]]
    lists += [[False], [False, 1], [None], [1, None], [None, 1], ["1"], [1, "1"], [[1]], [[]], [(1,)], [{}], [GREAT_NUMBER]]
    lists += [[1] * 13 + [0], [1] * 59 + [p], [1] * 200 + [0]]
    others = [(), (1,), (1, 2), (0, 1), {}, {0: 1}, {1}, "", "1", "1,2", b"", b"1", range(2), 0, 1, 2, None, True, False, object()]
    return lists + others


def no_quotients(p):
    """Things of any kind, none of them a quotient by p."""
    pairs = [([1], []), ([], []), ([1], [2]), ([], [2]), ([], [0, 1]), ([0, 1], [0, 1]), ([0, 2], [0, 1]), ([1], [1, 2])]
    pairs += [([p - 1, 1], [p - 1, 0, 1]), ([1, 1], [p - 1, 0, 1]), ([0] * 13 + [1], [0] * 14 + [1])]
    pairs += [([0], [1]), ([1], [1, 0]), ([1], [0]), ([p], [1]), ([-1], [1]), ([True], [1]), ([1], [True]), ([1], [None])]
    pairs += [((1,), [1]), ([1], (1,)), ((), [1]), ([], (1,)), (1, [1]), ([1], 1), (None, [1]), ([1], None), ("1", "1")]
    others = [[[1], [1]], ([1],), ([1], [1], [1]), (), [], {0: [1], 1: [1]}, {}, "1/1", "", b"", None, True, False, 0, 1]
    return pairs + others + [(1, 1), (1, 2), object(), len, range(2), [([1], [1])], (([1], [1]),)]


def no_worths(p):
    """Things of any kind, none of them worths by p."""
    tuples = [(p, 0), (0, p), (-1, 0), (0, -1), (True, 0), (0, True), (False, 1), (1, False), (None, 0), (None, None), (0,)]
    tuples += [(), (0, 0, 0), ("0", 0), (0, "0"), (0, "-"), (0, []), ([0], 0), ((0,), 0), (GREAT_NUMBER, 0), (0, GREAT_NUMBER)]
    others = [[0, 0], 0, 1, None, True, "0:0", "", {}, {0: 0}, [], ([], [])]
    lists = [[thing] for thing in tuples + others] + [[(2, 1), thing] for thing in tuples + others]
    lists += [[(0, 1), (0, 1)], [(0, 1), (1, 1), (0, 2)], [(0, None), (0, None)], [(1, 1), (0, 0), (1, None)]]
    if p > 12:
        lists += [[(x, 0) for x in range(13)], [(x, None) for x in range(13)]]
    return lists + [(), ((0, 1),), {}, {0: 1}, "", "-", "0:1", b"", None, True, False, 0, 1, (0, 1), object(), {(0, 1)}, range(0)]


def slow_poly_worth(poly, p, x):
    """The worth of a polynomial as the sum of powers."""
    return sum(number * x ** place for place, number in enumerate(poly)) % p


def slow_poly_of(numbers, p):
    """The polynomial that has these numbers, what p leaves of them."""
    numbers = [number % p for number in numbers]
    while numbers and numbers[-1] == 0:
        numbers.pop()
    return numbers


def slow_poly_sum(one, other, p):
    """The sum of two polynomials."""
    return slow_poly_of([a + b for a, b in itertools.zip_longest(one, other, fillvalue=0)], p)


def slow_poly_product(one, other, p):
    """The product of two polynomials."""
    pairs = [[i + j for i in range(len(one)) for j in range(len(other))], [a * b for a in one for b in other]]
    places = range(len(one) + len(other))
    return slow_poly_of([sum(n for at, n in zip(*pairs) if at == place) for place in places], p)


def with_roots(roots, p):
    """The product of x less each of these."""
    poly = [1]
    for root in roots:
        poly = slow_poly_product(poly, [-root, 1], p)
    return poly


@cache
def slow_polys_once(degree, p):
    """All polynomials of at most this degree, as tuples, those of lesser degrees first."""
    polys = [()]
    for many in range(degree + 1):
        polys += [row for row in itertools.product(range(p), repeat=many + 1) if row[-1] != 0]
    return tuple(polys)


def slow_polys(degree, p):
    """All polynomials of at most this degree."""
    return [list(poly) for poly in slow_polys_once(degree, p)]


@cache
def slow_divisors(poly, p):
    """All polynomials with the last number 1 that divide one that is not nought, as tuples."""
    found = []
    for divisor in slow_polys_once(len(poly) - 1, p):
        if divisor and divisor[-1] == 1:
            rest = list(poly)
            while len(rest) >= len(divisor):
                shift, last = len(rest) - len(divisor), rest[-1]
                taken = [0] * shift + [last * number for number in divisor]
                rest = slow_poly_of([a - b for a, b in zip(rest, taken)], p)
            if not rest:
                found.append(divisor)
    return tuple(found)


def slow_common(one, other, p):
    """All polynomials with the last number 1 that divide both, not both nought, as tuples."""
    if not one or not other:
        return list(slow_divisors(tuple(one or other), p))
    return [divisor for divisor in slow_divisors(tuple(one), p) if divisor in slow_divisors(tuple(other), p)]


@cache
def slow_quotients_once(a, b, p):
    """All quotients within degrees, as tuples of tuples."""
    bottoms = [bottom for bottom in slow_polys_once(b, p) if bottom and bottom[-1] == 1]
    pairs = itertools.product(slow_polys_once(a, p), bottoms)
    return tuple(pair for pair in pairs if slow_common(*pair, p) == [(1,)])


def slow_quotients(a, b, p):
    """All quotients within degrees, sorted as tuples."""
    return sorted([(list(top), list(bottom)) for top, bottom in slow_quotients_once(a, b, p)])


@cache
def slow_worth_once(q, p, x):
    """The worth of a quotient of tuples at a place, by trying each."""
    top, bottom = [slow_poly_worth(poly, p, x) for poly in q]
    fitting = [w for w in range(p) if (w * bottom - top) % p == 0]
    if bottom == 0:
        return None
    assert len(fitting) == 1
    return fitting[0]


def slow_worth(q, p, x):
    """The worth of a quotient at a place, by trying each."""
    return slow_worth_once((tuple(q[0]), tuple(q[1])), p, x)


def slow_worths(q, p, places):
    """The worths of a quotient at the places."""
    return [(x, slow_worth(q, p, x)) for x in places]


def slow_wrong_worths(q, p, worths):
    """How many of the worths a quotient does not keep."""
    return sum(slow_worth(q, p, x) != w for x, w in worths)


def slow_quotients_fitting(worths, p, a, b, e):
    """All quotients within degrees that keep all but at most e worths, sorted as tuples."""
    return [q for q in slow_quotients(a, b, p) if slow_wrong_worths(q, p, worths) <= e]


def chance_poly(chance, p, most):
    """A polynomial of at most this degree."""
    return slow_poly_of([chance.randrange(p) for place in range(chance.randint(0, most + 1))], p)


def chance_quotient(chance, p, a, b):
    """A quotient within degrees: its bottom has roots that its top has not."""
    while True:
        roots = [chance.randrange(p) for place in range(chance.randint(0, b))]
        top = chance_poly(chance, p, a)
        if all(slow_poly_worth(top, p, root) != 0 for root in roots):
            return top, with_roots(roots, p)


def unlike_nought(rows, many, p):
    """Numbers, not all of them 0, of which each row's sum of products is 0, fewer rows than numbers due."""
    done = []
    for row in rows:
        for pivot, other in done:
            row = [(a - row[pivot] * b) % p for a, b in zip(row, other)]
        pivot = next((place for place, number in enumerate(row) if number), None)
        if pivot is not None:
            row = [number * pow(row[pivot], -1, p) % p for number in row]
            done = [(at, [(a - other[pivot] * b) % p for a, b in zip(other, row)]) for at, other in done]
            done.append((pivot, row))
    free = [place for place in range(many) if place not in [pivot for pivot, row in done]]
    if not free:
        return None
    numbers = [0] * many
    numbers[free[-1]] = 1
    for pivot, row in done:
        numbers[pivot] = -row[free[-1]] % p
    return numbers


def slow_one_quotient(worths, p, a, b):
    """The one quotient within degrees that keeps all of a + b + 1 worths and more, by equations, or None."""
    rows = []
    for x, w in worths:
        of_top = [0 if w is None else pow(x, place, p) for place in range(a + 1)]
        of_bottom = [pow(x, place, p) * (1 if w is None else -w) % p for place in range(b + 1)]
        rows.append(of_top + of_bottom)
    numbers = unlike_nought(rows, a + b + 2, p)
    if numbers is None or not any(numbers[a + 1:]):
        return None
    q = quotient_of(slow_poly_of(numbers[:a + 1], p), slow_poly_of(numbers[a + 1:], p), p)
    return q if slow_wrong_worths(q, p, worths) == 0 else None


def spoiled_worths(chance, worths, p, many):
    """The worths with so many of them wrong."""
    wrong = chance.sample(range(len(worths)), many)
    others = [chance.choice([v for v in [None] + list(range(p)) if v != w]) for x, w in worths]
    return [(x, others[place] if place in wrong else w) for place, (x, w) in enumerate(worths)]


def lists_within(thing):
    """All lists and dicts that a thing is or holds, each as often as it does."""
    if isinstance(thing, dict):
        return [thing] + [found for part in thing.values() for found in lists_within(part)]
    if isinstance(thing, (list, tuple)):
        held = [found for part in thing for found in lists_within(part)]
        return [thing] + held if isinstance(thing, list) else held
    return []


def spoil(thing):
    """Changes every list and dict that a thing is or holds."""
    for found in lists_within(thing):
        if isinstance(found, dict):
            found.clear()
        else:
            found.append("changed")
            found.reverse()


def check_pure(case, function, *arguments):
    """Checks that a call changes nothing handed in, and that changing its answer changes no later one."""
    ahead = copy.deepcopy(arguments)
    first = function(*arguments)
    case.assertEqual(repr(arguments), repr(ahead))
    second = function(*arguments)
    owned = [id(found) for found in lists_within((first, second, arguments))]
    case.assertEqual(len(set(owned)), len(owned), "a list is shared")
    told = copy.deepcopy(first)
    case.assertEqual(repr(second), repr(told))
    spoil(first)
    case.assertEqual(repr(second), repr(told))
    case.assertEqual(repr(function(*arguments)), repr(told))
    case.assertEqual(repr(arguments), repr(ahead))
    return told


def check_refused(case, error, function, *arguments):
    """Checks that a call is refused with just this error, with a text, and changes nothing."""
    ahead = repr(arguments)
    try:
        told = function(*arguments)
    except error as refusal:
        case.assertEqual(refusal.__class__, error)
        case.assertEqual(len(refusal.args), 1)
        case.assertIsInstance(refusal.args[0], str)
        case.assertEqual(str(refusal), refusal.args[0])
    else:
        case.fail(f"{function.__name__}{ahead} told {told!r}, {error.__name__} is due")
    case.assertEqual(repr(arguments), ahead)
