"""Points of the plane and plates of points."""
from fourcreases.errors import NoPlate, NoPoint
from fourcreases.flat import distance, has_fraction_sides, is_convex, is_parted, line_through, lines_of, side_of, spread
from fourcreases.kinds import is_point, is_row


def length_of(one, other):
    """The distance of two points if it is a fraction, otherwise None."""
    if not is_point(one) or not is_point(other):
        raise NoPoint()
    return distance(spread(one), spread(other))


def turn_of(one, other, third):
    """1, -1 or 0, as the third point lies left of the line from one to other, right of it or on it."""
    if not is_point(one) or not is_point(other) or not is_point(third):
        raise NoPoint()
    side = side_of(line_through(spread(one), spread(other)), spread(third))
    if side == 0:
        return 0
    return 1 if side > 0 else -1


def is_plate(thing):
    """Tell whether something is a plate of points."""
    if not is_row(thing) or not 3 <= len(thing) <= 8:
        return False
    for point in thing:
        if not is_point(point):
            return False
    spots = [spread(point) for point in thing]
    return is_convex(spots) and has_fraction_sides(spots)


def lie_over(one, other):
    """Tell whether some point lies within both of two plates of points."""
    if not is_plate(one) or not is_plate(other):
        raise NoPlate()
    here = [spread(point) for point in one]
    there = [spread(point) for point in other]
    # Two convex polygons have no inner point in common only if a side of one of them parts them.
    return not is_parted(lines_of(here), there) and not is_parted(lines_of(there), here)
