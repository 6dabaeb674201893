"""Fractions, as tuples (p, q) of integers with q >= 1 and no common divisor but 1."""

from math import gcd

from shellways.kinds import is_integer

ZERO = (0, 1)
ONE = (1, 1)


def reduced(top, bottom):
    """Returns the fraction top / bottom; the bottom is at least 1."""
    common = gcd(top, bottom)
    return top // common, bottom // common


def plus(one, other):
    """Returns the sum of two fractions."""
    common = gcd(one[1], other[1])
    scale = other[1] // common
    top = one[0] * scale + other[0] * (one[1] // common)
    # Only what both bottoms have in common can be in the top, too.
    rest = gcd(top, common)
    return top // rest, (one[1] // rest) * scale


def product_of(one, other):
    """Returns the product of two fractions."""
    first = gcd(one[0], other[1])
    second = gcd(other[0], one[1])
    return (one[0] // first) * (other[0] // second), (one[1] // second) * (other[1] // first)


def scaled(ratio, top, bottom):
    """Returns a fraction times top / bottom, which may have a common divisor; the bottom is at least 1."""
    return product_of(ratio, reduced(top, bottom))


def is_less(one, other):
    return one[0] * other[1] < other[0] * one[1]


def is_fraction(value):
    if not is_pair_of_integers(value) or value[1] < 1:
        return False
    return gcd(value[0], value[1]) == 1


def is_pair_of_integers(value):
    return isinstance(value, tuple) and len(value) == 2 and is_integer(value[0]) and is_integer(value[1])


def is_part(value):
    """Returns whether the value is a tuple (p, q) of integers with 0 <= p <= q and q >= 1, reduced or not."""
    return is_pair_of_integers(value) and 0 <= value[0] <= value[1] and value[1] >= 1
