"""Turns of space as fours of integers, and what they do to vectors.

A turn about the axis (x, y, z) of length 1 by an angle whose half has the tangent t is the
quaternion 1 + t (x i + y j + z k); any multiple of it is the same turn, so integers do.
"""
from math import gcd

REST = (1, 0, 0, 0)


def slim_turn(turn):
    """A turn divided by what divides all four integers."""
    shared = 0
    for part in turn:
        shared = gcd(shared, part)
    return tuple([part // shared for part in turn])


def turn_behind(turn, vector, size, number):
    """The turn about a vector of the plane with a size, by a number, and behind it another turn."""
    a, b, c, d = turn
    top, bottom = number
    e, f, g = bottom * size, top * vector[0], top * vector[1]
    return slim_turn((a * e - b * f - c * g, a * f + b * e - d * g, a * g + c * e + d * f, b * g - c * f + d * e))


def turned(turn, vector):
    """A vector of the plane, turned, times the square of the turn's size; and this square."""
    a, b, c, d = turn
    x, y = vector
    square = a * a + b * b + c * c + d * d
    return (
        (a * a + b * b - c * c - d * d) * x + 2 * (b * c - a * d) * y,
        2 * (b * c + a * d) * x + (a * a - b * b + c * c - d * d) * y,
        2 * (b * d - a * c) * x + 2 * (c * d + a * b) * y,
    ), square
