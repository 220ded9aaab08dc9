"""Reckoning with fractions that are known to be such: nothing is checked here."""
from math import gcd, isqrt

NOUGHT = (0, 1)
UNIT = (1, 1)


def lowest(top, bottom):
    """The fraction of two integers, the second one not 0."""
    shared = gcd(top, bottom)
    if bottom < 0:
        shared = -shared
    return (top // shared, bottom // shared)


def plus(one, other):
    """The sum of two fractions."""
    return lowest(one[0] * other[1] + other[0] * one[1], one[1] * other[1])


def minus(one, other):
    """The difference of two fractions."""
    return lowest(one[0] * other[1] - other[0] * one[1], one[1] * other[1])


def times(one, other):
    """The product of two fractions."""
    return lowest(one[0] * other[0], one[1] * other[1])


def divided(one, other):
    """The quotient of two fractions, the second one not 0."""
    return lowest(one[0] * other[1], one[1] * other[0])


def opposite(one):
    """The fraction with the other sign."""
    return (-one[0], one[1])


def whole_root(number):
    """The integer from 0 on whose square is an integer, None if there is none."""
    if number < 0:
        return None
    root = isqrt(number)
    if root * root != number:
        return None
    return root
