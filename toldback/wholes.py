"""Reckoning with whole numbers that several modules share."""


def is_whole(thing):
    """Whether it is a whole number: True and False are none."""
    return isinstance(thing, int) and not isinstance(thing, bool)


def is_whole_below(thing, limit):
    """Whether it is a whole number from 0 to the limit less 1."""
    return is_whole(thing) and 0 <= thing < limit


def common_divisor(one, other):
    """The greatest number that divides both, the other one above 0."""
    while other != 0:
        one, other = other, one % other
    return one


def product_of(numbers):
    """The product of the numbers, 1 of none."""
    product = 1
    for number in numbers:
        product *= number
    return product


def choices(things, many):
    """All lists of so many of the things, in their order, sorted by the places of the things."""
    if many == 0:
        return [[]]
    return [
        [things[place]] + behind
        for place in range(len(things))
        for behind in choices(things[place + 1:], many - 1)
    ]


def short_row(modulus, number, most):
    """The first remainder of Euclid's steps that is at most `most`, and its factor.

    The modulus divides the factor times the number less the remainder. The
    number is from 0 to the modulus less 1, so the factor is never 0.
    """
    above, left = modulus, number
    factor_above, factor = 0, 1
    while left > most:
        times = above // left
        above, left = left, above - times * left
        factor_above, factor = factor, factor_above - times * factor
    return left, factor


def inverse(number, prime):
    """The number whose product with this one leaves 1 by the prime, which does not divide it."""
    # Nothing but 1 divides both, so the first remainder that is not above 1 is 1 itself.
    return short_row(prime, number % prime, 1)[1] % prime
