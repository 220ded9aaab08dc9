"""Where two plates of a stand have points in common, seen from the plane of one of them.

What the second plate has in this plane is nothing, a straight line or, if both lie in one plane, all
of it. It is cut down to what lies in the first plate, too. The middle of what is left lies within
both plates if any point does: a point within both has such points round it on each way to the middle.
"""
from math import gcd

from fourcreases.flat import lines_of, side_of, spread
from fourcreases.placings import corner_points, plate_turns
from fourcreases.showing import whole_points


def points_from(sheet, numbers, start):
    """The dict from the corners to their space points by a stand, if the start lies as in the sheet."""
    return corner_points(sheet, plate_turns(sheet, numbers, start), start)


def plate_lines(sheet, number):
    """The directed lines of the sides of a plate."""
    return lines_of([spread(sheet.corners[corner]) for corner in sheet.plates[number]])


def slim_spot(spot):
    """A spot divided by what divides all three integers."""
    x, y, weight = spot
    shared = gcd(gcd(x, y), weight)
    return (x // shared, y // shared, weight // shared)


def between(one, other, here, there):
    """The spot between two other ones at which something is 0 that is here at one and there at the other."""
    sign = 1 if here > 0 else -1
    return slim_spot(tuple([sign * (here * end - there * start) for start, end in zip(one, other)]))


def level_spots(points):
    """The spots at which a plate meets the plane of height 0: none, the ends of a line, or its corners."""
    signs = [point[2][0] for point in points]
    if min(signs) * max(signs) >= 0 and (min(signs) != 0 or max(signs) != 0):
        return []
    solid, weight = whole_points(points)
    spots = []
    for at, (x, y, height) in enumerate(solid):
        a, b, ahead = solid[at - 1]
        if height * ahead < 0:
            spots.append(between((a, b, weight), (x, y, weight), ahead, height))
        if height == 0:
            spots.append(slim_spot((x, y, weight)))
    return spots


def clipped(spots, line):
    """What lies of a polygon, or of a line and back, on the left of a directed line or on it."""
    sides = [side_of(line, spot) for spot in spots]
    kept = []
    for at, spot in enumerate(spots):
        if sides[at - 1] * sides[at] < 0:
            kept.append(between(spots[at - 1], spot, sides[at - 1], sides[at]))
        if sides[at] >= 0:
            kept.append(spot)
    return kept


def meeting_spot(points, lines):
    """A spot within the plate of the lines and within the one of the points, None if there is none."""
    spots = level_spots(points)
    for line in lines:
        spots = clipped(spots, line)
    if not spots:
        return None
    # The sum of spots lies between them, as all weights are above 0.
    middle = slim_spot(tuple([sum([spot[part] for spot in spots]) for part in range(3)]))
    for line in lines:
        if side_of(line, middle) <= 0:
            return None
    return middle
