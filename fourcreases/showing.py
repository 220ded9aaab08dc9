"""What a placing shows: whether its plates are those of the sheet, and the number of each crease."""
from math import lcm

from fourcreases.flat import cross, dot
from fourcreases.ratios import lowest, whole_root


def whole_points(points):
    """Points as tuples of integers, and the weight by which all of them were multiplied."""
    weight = 1
    for point in points:
        for _, below in point:
            weight = lcm(weight, below)
    return [tuple([top * (weight // bottom) for top, bottom in point]) for point in points], weight


def gap(one, other):
    """The vector from a point of integers to another one."""
    return tuple([there - here for here, there in zip(one, other)])


def inner_product(one, other):
    """The inner product of two vectors."""
    return sum([here * there for here, there in zip(one, other)])


def outer_product(one, other):
    """The outer product of two vectors of space."""
    a, b, c = one
    x, y, z = other
    return (b * z - c * y, c * x - a * z, a * y - b * x)


def mixed(factor, one, weight, other):
    """The sum of a multiple of one vector and a multiple of another one."""
    return tuple([factor * here + weight * there for here, there in zip(one, other)])


def square_gap(one, other):
    """The square of the distance of two points of integers."""
    vector = gap(one, other)
    return inner_product(vector, vector)


def are_congruent(flat, solid):
    """Tell whether each two points are as far apart as the two others with the same places."""
    here, below = whole_points(flat)
    there, under = whole_points(solid)
    for at in range(len(here)):
        for by in range(at):
            if square_gap(here[at], here[by]) * under ** 2 != square_gap(there[at], there[by]) * below ** 2:
                return False
    return True


def off_corner(plate, crease):
    """A corner of a plate that is no end of a crease."""
    return [corner for corner in plate if corner not in crease][0]


def shown_number(sheet, points, crease):
    """The number of a crease, by the space points of the corners; None if it is wholly shut."""
    left, right = sheet.beside(crease)
    row = [*crease, off_corner(sheet.plates[left], crease), off_corner(sheet.plates[right], crease)]
    flat, _ = whole_points([sheet.corners[corner] for corner in row])
    solid, _ = whole_points([points[corner] for corner in row])
    along, here, there = [gap(flat[0], point) for point in flat[1:]]
    axis, risen, kept = [gap(solid[0], point) for point in solid[1:]]
    up, down = cross(along, here), cross(along, there)
    # Both are what the plate's normal to the crease has become, times one and the same integer.
    turned = mixed(down * dot(along, along), risen, -down * dot(along, here), axis)
    level = mixed(up * dot(along, along), kept, -up * dot(along, there), axis)
    # A turn by t takes one to the other exactly if their difference is t times the product here.
    sides = outer_product(axis, mixed(1, turned, 1, level))
    size = whole_root(inner_product(axis, axis))
    for part, whole in zip(gap(level, turned), sides):
        if whole != 0:
            return lowest(part * size, whole)
    return None
