"""Polynomials by a prime: the numbers of 1, x, x times x and so on, the last of them not 0."""

from toldback.errors import NoNumber, NoPoly, NoPrime
from toldback.rests import is_prime
from toldback.wholes import inverse, is_whole_below

LEAST_PRIME = 3
GREATEST_PRIME = 97


def need_field(p):
    """Refuses what is no prime from 3 to 97."""
    if not is_prime(p) or p < LEAST_PRIME or p > GREATEST_PRIME:
        raise NoPrime(f"not a prime from {LEAST_PRIME} to {GREATEST_PRIME}")


def is_poly_by(thing, p):
    """Whether it is a polynomial by what is known to be a prime."""
    if not isinstance(thing, list) or not all(is_whole_below(number, p) for number in thing):
        return False
    return len(thing) == 0 or thing[-1] != 0


def is_poly(thing, p):
    """Whether it is a polynomial by the prime."""
    need_field(p)
    return is_poly_by(thing, p)


def need_poly(thing, p):
    """Refuses what is no polynomial by the prime."""
    if not is_poly_by(thing, p):
        raise NoPoly("not a polynomial by the prime")


def need_two_polys(one, other, p):
    """Refuses what is no prime, then what are not two polynomials by it."""
    need_field(p)
    need_poly(one, p)
    need_poly(other, p)


def need_divisor(poly):
    """Refuses nought, where something is parted by it."""
    if len(poly) == 0:
        raise NoPoly("nothing is parted by nought")


def need_place(thing, p):
    """Refuses what is no place by the prime."""
    if not is_whole_below(thing, p):
        raise NoNumber("not a place from 0 to the prime less 1")


def trimmed(numbers):
    """The numbers without the noughts at their end, as a new list."""
    many = len(numbers)
    while many > 0 and numbers[many - 1] == 0:
        many -= 1
    return numbers[:many]


def padded(poly, many):
    """The numbers of a polynomial with noughts behind them, at least so many, as a new list."""
    return poly + [0] * (many - len(poly))


def worth_at(poly, p, x):
    """The worth of what is known to be a polynomial at what is known to be a place."""
    worth = 0
    for number in reversed(poly):
        worth = (worth * x + number) % p
    return worth


def added(one, other, p):
    """The sum of what are known to be polynomials."""
    many = max(len(one), len(other))
    return trimmed([(a + b) % p for a, b in zip(padded(one, many), padded(other, many))])


def scaled(poly, factor, p):
    """A number times what is known to be a polynomial."""
    return trimmed([number * factor % p for number in poly])


def product_by(one, other, p):
    """The product of what are known to be polynomials."""
    numbers = [0] * (len(one) + len(other))
    for place, a in enumerate(one):
        for further, b in enumerate(other):
            numbers[place + further] = (numbers[place + further] + a * b) % p
    return trimmed(numbers)


def parted(one, other, p):
    """The quotient and the rest of what are known to be polynomials, the other one not nought."""
    rest = list(one)
    many = max(0, len(one) - len(other) + 1)
    quotient = [0] * many
    back = inverse(other[-1], p)
    for shift in reversed(range(many)):
        factor = rest[shift + len(other) - 1] * back % p
        quotient[shift] = factor
        for place, number in enumerate(other):
            rest[shift + place] = (rest[shift + place] - factor * number) % p
    return quotient, trimmed(rest)


def common_poly(one, other, p):
    """The greatest common divisor of what are known to be polynomials, not both nought."""
    while len(other) > 0:
        quotient, rest = parted(one, other, p)
        one, other = other, rest
    return scaled(one, inverse(one[-1], p), p)


def poly_worth(poly, p, x):
    """The worth of a polynomial at a place."""
    need_field(p)
    need_poly(poly, p)
    need_place(x, p)
    return worth_at(poly, p, x)


def poly_sum(one, other, p):
    """The sum of two polynomials."""
    need_two_polys(one, other, p)
    return added(one, other, p)


def poly_product(one, other, p):
    """The product of two polynomials."""
    need_two_polys(one, other, p)
    return product_by(one, other, p)


def poly_parted(one, other, p):
    """The tuple (quotient, rest) of one polynomial by another that is not nought."""
    need_two_polys(one, other, p)
    need_divisor(other)
    return parted(one, other, p)


def greatest_divisor(one, other, p):
    """The greatest common divisor of two polynomials, its last number 1."""
    need_two_polys(one, other, p)
    if len(one) == 0 and len(other) == 0:
        raise NoPoly("everything divides nought and nought")
    return common_poly(one, other, p)
