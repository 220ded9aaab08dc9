"""Geometry of the plane in integers alone.

A spot here is a triple (x, y, weight) of integers, the weight above 0, for the point
(x / weight, y / weight): so no fraction needs to be brought to lowest terms on the way.
"""
from math import lcm

from fourcreases.ratios import lowest, whole_root


def spread(point):
    """The spot of a point."""
    (x, below), (y, under) = point
    weight = lcm(below, under)
    return (x * (weight // below), y * (weight // under), weight)


def arrow(one, other):
    """The vector from one spot to another one, times both weights."""
    return (other[0] * one[2] - one[0] * other[2], other[1] * one[2] - one[1] * other[2])


def cross(one, other):
    """The outer product of two vectors: above 0 if the second one points to the left."""
    return one[0] * other[1] - one[1] * other[0]


def dot(one, other):
    """The inner product of two vectors."""
    return one[0] * other[0] + one[1] * other[1]


def size_of(vector):
    """The length of a vector if it is an integer, otherwise None."""
    return whole_root(dot(vector, vector))


def distance(one, other):
    """The distance of two spots if it is a fraction, otherwise None."""
    size = size_of(arrow(one, other))
    if size is None:
        return None
    return lowest(size, one[2] * other[2])


def line_through(one, other):
    """The directed line through two spots, three integers for `side_of`."""
    return (
        one[1] * other[2] - one[2] * other[1],
        one[2] * other[0] - one[0] * other[2],
        one[0] * other[1] - one[1] * other[0],
    )


def side_of(line, spot):
    """Above 0 if a spot lies on the left of a directed line, below 0 on its right, 0 on it."""
    return line[0] * spot[0] + line[1] * spot[1] + line[2] * spot[2]


def lines_of(spots):
    """The directed lines of the sides of a polygon, the one from the last spot to the first at the end."""
    return [line_through(spots[at], spots[at + 1 - len(spots)]) for at in range(len(spots))]


def is_convex(spots):
    """Tell whether, for each side of a polygon, all other spots lie on its left."""
    many = len(spots)
    for at, line in enumerate(lines_of(spots)):
        for step in range(2, many):
            if side_of(line, spots[at + step - many]) <= 0:
                return False
    return True


def has_fraction_sides(spots):
    """Tell whether the length of each side of a polygon is a fraction."""
    for at in range(len(spots)):
        if distance(spots[at - 1], spots[at]) is None:
            return False
    return True


def is_parted(lines, spots):
    """Tell whether one of the directed lines has none of the spots on its left."""
    for line in lines:
        if max([side_of(line, spot) for spot in spots]) <= 0:
            return True
    return False


def is_between(spot, one, other):
    """Tell whether a spot lies on the straight line between two other ones, and is neither."""
    if side_of(line_through(one, other), spot) != 0:
        return False
    return dot(arrow(spot, one), arrow(spot, other)) < 0
