"""Patches for the tests: strips of nets that come again, and chains of plates with four inner corners."""
from fractions import Fraction
from math import atan2, pi, tan

from fourcreases.bands import Patch
from fourcreases.sheets import Sheet
from tests.makers import grid, meeting, net_ways, outer, point, spin, step, times, zigzag


def near_spin(angle):
    """A vector of length 1 with fractions near an angle."""
    if abs(angle) > pi / 2:
        x, y = near_spin(angle - pi if angle > 0 else angle + pi)
        return (-x, -y)
    return spin(Fraction(tan(angle / 2)).limit_denominator(200))


def apex(one, other):
    """A point a little to the right of the way from one point to another, its distances to both fractions."""
    angle = atan2(other[1] - one[1], other[0] - one[0])
    return meeting(one, near_spin(angle - 0.15), other, near_spin(angle + 0.15))


class Laying:
    """Points and plates as they are found, told by names."""

    def __init__(self):
        self.points = {}
        self.plates = []

    def lay(self, *names):
        """Lay a plate; a pair in the place of a name asks for a point beside the way between two ones."""
        row = []
        for name in names:
            if isinstance(name, tuple) and name[0] == "apex":
                self.points[name] = apex(self.points[name[1]], self.points[name[2]])
            row.append(name)
        self.plates.append(row)

    def patch(self, left, right):
        number = {name: at for at, name in enumerate(self.points)}
        sheet = Sheet([point(x, y) for x, y in self.points.values()], [[number[name] for name in row] for row in self.plates])
        return Patch(sheet, [number[name] for name in left], [number[name] for name in right])


def strip_patch(rows, across=(2, 2), up=1, tip=Fraction(1, 4)):
    """A strip of a net with two columns that come again: rows of the pairs (u, v) of a seam and of the column between.

    There are one or two rows. The lengths of the second row follow from those of the first one; where
    the sides between them are parallel, the second length of the first row follows, too, but up is free.
    """
    table = [[tuple(map(Fraction, told)) for told in (row[0], row[1], row[0])] for row in rows]
    ways = net_ways(table)
    for row in ways:
        assert row[0] == row[2]
    first, second = map(Fraction, across)
    if len(rows) == 1:
        return laid_strip([row_of(ways[0], (0, 0), first, second)], ways, tip)
    bend = outer(ways[0][0][1], ways[0][1][1])
    if bend == 0:
        second = -first * gap_of(ways, 1, 0) / gap_of(ways, 0, 1)
        up = Fraction(up)
    else:
        up = -gap_of(ways, first, second) / bend
    start = step((0, 0), ways[0][0][1], up)
    low, high = row_of(ways[0], (0, 0), first, second), row_of(ways[1], start, *upper_lengths(ways, first, second))
    return laid_strip([low, high], ways, tip)


def row_of(ways, start, first, second):
    middle = step(start, ways[0][0], first)
    return [start, middle, step(middle, ways[1][0], second)]


def upper_lengths(ways, first, second):
    """The lengths of the second row, which leads as far as the first one."""
    lead, onward = ways[1][0][0], ways[1][1][0]
    whole = row_of(ways[0], (0, 0), first, second)[2]
    return outer(whole, onward) / outer(lead, onward), outer(lead, whole) / outer(lead, onward)


def gap_of(ways, first, second):
    """How far the middle of the second row is off the line to the north of the first one's, if both rows begin alike."""
    low = row_of(ways[0], (0, 0), Fraction(first), Fraction(second))[1]
    high = row_of(ways[1], (0, 0), *upper_lengths(ways, Fraction(first), Fraction(second)))[1]
    return outer((high[0] - low[0], high[1] - low[1]), ways[0][1][1])


def laid_strip(spots, ways, tip):
    laying = Laying()
    high = len(spots)
    for j, row in enumerate(spots):
        for i, spot in enumerate(row):
            laying.points[i, j] = spot
    for i in range(3):
        laying.points[i, -1] = step(spots[0][i], ways[0][i][3], tip)
        laying.points[i, high] = step(spots[-1][i], ways[-1][i][1], tip)
    for i in range(2):
        laying.lay((i, -1), ("apex", (i, -1), (i + 1, -1)), (i + 1, -1), (i + 1, 0), (i, 0))
        for j in range(high - 1):
            laying.lay((i, j), (i + 1, j), (i + 1, j + 1), (i, j + 1))
        laying.lay((i, high - 1), (i + 1, high - 1), (i + 1, high), ("apex", (i + 1, high), (i, high)), (i, high))
    return laying.patch([(0, j) for j in range(-1, high + 1)], [(2, j) for j in range(-1, high + 1)])


def size_of(vector):
    square = vector[0] ** 2 + vector[1] ** 2
    top, bottom = [next(k for k in range(1, 10 ** 4) if k * k == part) for part in (square.numerator, square.denominator)]
    return Fraction(top, bottom)


def unit_from(one, other):
    vector = (other[0] - one[0], other[1] - one[1])
    size = size_of(vector)
    return (vector[0] / size, vector[1] / size)


def half_tangent(one, other):
    return outer(one, other) / (1 + one[0] * other[0] + one[1] * other[1])


def four_ways(start, east, west, v):
    """The four directions at an inner corner, of which two are told, and the tangent v is behind them."""
    first, second = unit_from(start, east), unit_from(start, west)
    u = half_tangent(first, second)
    third = times(second, spin(v))
    return u, (first, second, third, times(third, spin(1 / u)))


def diamond_told():
    """The four corners of a plate on a circle, from the left one on, and the pair (u, v) where two such meet."""
    roots = [(Fraction(-7, 25), Fraction(24, 25)), (Fraction(-4, 5), Fraction(3, 5)), (Fraction(1), Fraction(0)),
             (Fraction(20, 29), Fraction(21, 29))]
    left, low, right, high = [times(root, root) for root in roots]
    back = (left[0] - right[0], left[1] - right[1])
    east_low, east_high = unit_from(left, low), unit_from(left, high)
    west_high = unit_from((0, 0), (high[0] - right[0], high[1] - right[1]))
    return (left, low, right, high), (half_tangent(east_low, east_high), half_tangent(east_high, west_high)), back


def diamond_patch(low_v, high_v):
    """A plate with four corners, two of which come again: in a band all its corners are inner ones.

    The corners of a seam are the lower one, the right one and the upper one of the plate.
    """
    (left, low, right, high), _, back = diamond_told()
    _, (_, _, low_seam, low_free) = four_ways(low, right, left, low_v)
    _, (_, _, high_free, high_seam) = four_ways(high, left, right, high_v)
    size = Fraction(1, 2)
    laying = Laying()
    now = laying.points
    now["low"], now["right"], now["high"] = low, right, high
    now["down"], now["up"] = step(low, low_seam, size), step(high, high_seam, size)
    for name in ("low", "right", "high", "down", "up"):
        now["old " + name] = (now[name][0] + back[0], now[name][1] + back[1])
    now["low end"] = step(now["old low"], low_free, size)
    now["high end"] = step(now["old high"], high_free, size)
    for name, end, seam in (("low", "low end", "old down"), ("high", "high end", "old up")):
        middle = now["old " + name]
        now[name + " far"] = tuple(now[end][k] + now[seam][k] - middle[k] for k in (0, 1))
    laying.lay("old right", "low", "right", "high")
    laying.lay("old low", "old down", "low far", "low end")
    laying.lay("old low", "low end", ("apex", "low end", "down"), "down", "low", "old right")
    laying.lay("old high", "high end", "high far", "old up")
    laying.lay("old right", "high", "up", ("apex", "up", "high end"), "high end", "old high")
    seam = ("down", "low", "right", "high", "up")
    return laying.patch(["old " + name for name in seam], list(seam))


def strip_told(text, **more):
    """A strip by its numbers: the pairs of the middle, of the seam, and in the second row of the seam, of the middle."""
    told = [Fraction(word) for word in text.split()]
    one, two, three, four = [(told[k], told[k + 1]) for k in (0, 2, 4, 6)]
    return strip_patch([(two, one), (three, four)], **more)


HALF = Fraction(1, 2)
# Patches, each with the numbers of choices of its bands of 1, 2, 3 .. copies.
COUNTED = {
    "row": (lambda: strip_patch([((HALF, Fraction(2, 3)), (2, Fraction(3, 2)))]), [2, 8, 32, 128, 512, 2048]),
    "wide": (lambda: strip_told("3 2 1/2 1/3 3 2 1/2 1/3", across=(HALF, 1)), [4, 10, 34, 130, 514, 2050]),
    "four": (lambda: strip_told("1/4 1/3 3 4 5/3 3/4 4/3 3/5", across=(1, 1)), [4, 4, 4, 4, 4, 4]),
    "other four": (lambda: strip_told("1 1/2 2 1 2/5 5/4 4/5 5/2", across=(1, 1)), [4, 4, 4, 4, 4, 4]),
    "two": (lambda: strip_told("5/4 2/3 1/4 94/15 4 15/94 4/5 3/2", across=(1, HALF), tip=Fraction(1, 20)), [4] + [2] * 5),
    "one": (lambda: strip_told("4/5 2 4/3 6/13 1/8 4/3 2 3/2", across=(1, 1), tip=Fraction(1, 20)), [4] + [1] * 5),
    "straight": (lambda: strip_told("3/2 3/2 2/3 2/3 4/5 4/5 5/4 5/4", across=(1, 1)), [1] * 6),
    "stiff": (lambda: strip_told("1/4 1/2 3/2 33/4 2/3 22/19 2/3 2", across=(2, Fraction(1, 3))), [4, 0, 0, 0, 0, 0]),
    "diamonds": (lambda: diamond_patch(Fraction(1), Fraction(1)), [1, 8, 0, 0, 0, 0]),
    "loose diamonds": (lambda: diamond_patch(Fraction(8, 9), Fraction(9, 8)), [1, 8, 8, 8, 8, 8]),
    "squares": (lambda: column_patch(grid(1, 3)), [1, 0, 0, 0, 0, 0]),
    "more squares": (lambda: column_patch(grid(2, 2)), [0] * 6),
    "leaning": (lambda: column_patch(zigzag(2, 4)), [1] * 6),
}


def counted(name):
    return COUNTED[name][0]()


def column_patch(sheet):
    """The patch of a net of equal plates: its seams are its first and its last column."""
    wide = max(len([spot for spot in sheet.corners if spot[0] == corner[0]]) for corner in sheet.corners)
    columns = len(sheet.corners) // wide
    return Patch(sheet, [columns * j for j in range(wide)], [columns * j + columns - 1 for j in range(wide)])
