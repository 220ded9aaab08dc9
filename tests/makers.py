"""Sheets for the tests, and the same things reckoned in another way, with Python's own fractions."""
from fractions import Fraction

from fourcreases.sheets import Sheet


def pair(worth):
    """The package's fraction for a number."""
    worth = Fraction(worth)
    return (worth.numerator, worth.denominator)


def worth(fraction):
    """Python's fraction for one of the package."""
    return Fraction(fraction[0], fraction[1])


def point(x, y):
    return (pair(x), pair(y))


def points(*rows):
    return [point(x, y) for x, y in rows]


def star():
    """The example of the document."""
    places = [(0, 0), (1, 0), (0, 1), (-3, 4), (-4, -3), (1, 1), (-3, 5), (-7, 1), (-3, -3)]
    return Sheet(points(*places), [(0, 1, 5, 2), (0, 2, 6, 3), (0, 3, 7, 4), (0, 4, 8, 1)])


def single():
    """One plate alone."""
    return Sheet(points((0, 0), (4, 0), (0, 3)), [(0, 1, 2)])


def grid_parts(across, up, place):
    corners = [place(x, y) for y in range(up + 1) for x in range(across + 1)]
    wide = across + 1
    plates = [
        (y * wide + x, y * wide + x + 1, (y + 1) * wide + x + 1, (y + 1) * wide + x)
        for y in range(up) for x in range(across)
    ]
    return corners, plates


def grid(across, up):
    """Squares side by side: at each inner corner m and n are 0."""
    return Sheet(*grid_parts(across, up, point))


def zigzag(across, up):
    """Parallelograms side by side, columns leaning to and fro: n alone is 0, or m alone."""
    return Sheet(*grid_parts(across, up, lambda x, y: point(4 * x, 5 * y + 3 * (x % 2))))


def ladder(many):
    """A strip of so many triangles without inner corners."""
    places = [(4 * (k // 2), 3 * (k % 2)) for k in range(many + 2)]
    plates = [(k, k + 2, k + 1) if k % 2 == 0 else (k, k + 1, k + 2) for k in range(many)]
    return Sheet(points(*places), plates)


def rhombs(many):
    """A chain of so many rhombs with an inner corner each, of which no two are joined."""
    corners, plates = [], []
    at = {}

    def number(x, y):
        if (x, y) not in at:
            at[(x, y)] = len(corners)
            corners.append(point(x, y))
        return at[(x, y)]

    for k in range(many):
        x, y = 4 * k, 3 * k
        middle = number(x, y)
        ring = [number(x + 4, y), number(x, y + 3), number(x - 4, y), number(x, y - 3)]
        plates += [(middle, ring[j], ring[(j + 1) % 4]) for j in range(4)]
    return Sheet(corners, plates)


def times(one, other):
    """The product of two vectors as complex numbers."""
    return (one[0] * other[0] - one[1] * other[1], one[0] * other[1] + one[1] * other[0])


def spin(tangent):
    """The vector of length 1 at the angle whose half has the tangent."""
    t = Fraction(tangent)
    return ((1 - t * t) / (1 + t * t), 2 * t / (1 + t * t))


def step(start, way, far):
    return (start[0] + way[0] * far, start[1] + way[1] * far)


def outer(one, other):
    return one[0] * other[1] - one[1] * other[0]


def angles_net(first_row, first_column, others):
    """A table of (u, v) that fits together: first row and column, and the v of all other corners."""
    wide, high = len(first_row), len(first_column)
    table = [[None] * wide for _ in range(high)]
    for i in range(wide):
        table[0][i] = tuple(map(Fraction, first_row[i]))
    for j in range(high):
        table[j][0] = tuple(map(Fraction, first_column[j]))
    for j in range(1, high):
        for i in range(1, wide):
            u_sw = table[j - 1][i - 1][0]
            v_se = table[j - 1][i][1]
            v_nw = table[j][i - 1][1]
            c, d = 1 - u_sw * v_se, u_sw + v_se
            table[j][i] = ((d - c * v_nw) / (c + d * v_nw), Fraction(others[j - 1][i - 1]))
    return table


def net_ways(table):
    """For each corner of a table its directions to the east, north, west and south."""
    ways = [[None] * len(table[0]) for _ in table]
    for j, row in enumerate(table):
        for i, (u, v) in enumerate(row):
            if i == 0 and j == 0:
                east = (Fraction(1), Fraction(0))
            elif i > 0:
                west = tuple(-x for x in ways[j][i - 1][0])
                # The angle from west to south to east is a half turn less u, and a half turn less v.
                south = times(west, spin(1 / u))
                east = times(south, spin(1 / v))
            else:
                south = tuple(-x for x in ways[j - 1][i][1])
                east = times(south, spin(1 / v))
            north = times(east, spin(u))
            west = times(north, spin(v))
            ways[j][i] = (east, north, west, times(west, spin(1 / u)))
    return ways


def net(table, across, up, depth):
    """The sheet of a table, with lengths for its first row and first column, as [13.5] tells it."""
    wide, high = len(table[0]), len(table)
    ways = net_ways(table)
    spots = [[(Fraction(0), Fraction(0))] * wide for _ in range(high)]
    for i in range(1, wide):
        spots[0][i] = step(spots[0][i - 1], ways[0][i - 1][0], across[i - 1])
    for j in range(1, high):
        spots[j][0] = step(spots[j - 1][0], ways[j - 1][0][1], up[j - 1])
        for i in range(1, wide):
            spots[j][i] = meeting(spots[j][i - 1], ways[j][i - 1][0], spots[j - 1][i], ways[j - 1][i][1])
    return net_sheet(spots, ways, depth)


def meeting(one, way, other, lead):
    gap = (other[0] - one[0], other[1] - one[1])
    return step(one, way, outer(gap, lead) / outer(way, lead))


def net_sheet(spots, ways, depth):
    wide, high = len(spots[0]), len(spots)
    corners = [spot for row in spots for spot in row]
    inside = [(i, j) for j in range(high) for i in range(wide)]
    number = {place: at for at, place in enumerate(inside)}
    plates = [
        (number[i, j], number[i + 1, j], number[i + 1, j + 1], number[i, j + 1])
        for j in range(high - 1) for i in range(wide - 1)
    ]
    edges = [
        ([(i, 0) for i in range(wide)], 3), ([(wide - 1, j) for j in range(high)], 0),
        ([(i, high - 1) for i in range(wide)][::-1], 1), ([(0, j) for j in range(high)][::-1], 2),
    ]
    tips = {}
    for row, way in edges:
        for at, (i, j) in enumerate(row):
            spot, lead = spots[j][i], ways[j][i][way]
            if at == 0:
                tip = step(spot, lead, Fraction(depth))
            else:
                a = spots[row[at - 1][1]][row[at - 1][0]]
                tip = meeting(last, (spot[0] - a[0], spot[1] - a[1]), spot, lead)
            last = tip
            tips[i, j, way] = len(corners)
            corners.append(tip)
        for a, b in zip(row, row[1:]):
            plates.append((number[b], number[a], tips[(*a, way)], tips[(*b, way)]))
    for k, (row, way) in enumerate(edges):
        place = row[-1]
        beyond = edges[(k + 1) % 4][1]
        one, other = corners[tips[(*place, way)]], corners[tips[(*place, beyond)]]
        middle = corners[number[place]]
        corners.append((one[0] + other[0] - middle[0], one[1] + other[1] - middle[1]))
        plates.append((number[place], tips[(*place, way)], len(corners) - 1, tips[(*place, beyond)]))
    return Sheet([point(x, y) for x, y in corners], plates)


def fractions_mn(u, v):
    return (1 - u * v) / (1 + u * v), (v - u) / (v + u)


def line_of_choice(u, v, pick):
    """What the chosen line has to the east, north, west and south."""
    m, n = fractions_mn(u, v)
    return (1, -m, 1, m) if pick == 1 else (-n, 1, n, 1)


def growing(first_row, first_column, wish):
    """The table of (u, v) with this row 0 and this column 0 in which all creases fold by the wish."""
    zeros = [[1] * (len(first_row) - 1) for _ in first_column[1:]]
    table = angles_net(first_row, first_column, zeros)
    for j in range(1, len(first_column)):
        for i in range(1, len(first_row)):
            u_sw = table[j - 1][i - 1][0]
            v_se, v_nw = table[j - 1][i][1], table[j][i - 1][1]
            c, d = 1 - u_sw * v_se, u_sw + v_se
            u = (d - c * v_nw) / (c + d * v_nw)
            sw = line_of_choice(*table[j - 1][i - 1], wish[j - 1][i - 1])
            se = line_of_choice(*table[j - 1][i], wish[j - 1][i])
            nw = line_of_choice(*table[j][i - 1], wish[j][i - 1])
            # Round the cell: east by north, north by west, west by south, south by east.
            others = Fraction(sw[0]) / sw[1] * se[1] / se[2] * nw[3] / nw[0]
            if wish[j][i] == 1:
                m = others
                v = (1 - m) / (1 + m) / u
            else:
                n = 1 / others
                v = u * (1 + n) / (1 - n)
            table[j][i] = (u, v)
    return table


def fold_net():
    """A sheet with nine inner corners, m and n nowhere 0, that folds as a whole by FOLD_CHOICE alone."""
    half = [(Fraction(2, 3), Fraction(5, 6)), (Fraction(8, 5), Fraction(7, 4)), (Fraction(4, 5), Fraction(9, 8))]
    side = [half[0], (Fraction(8, 9), Fraction(5, 7)), (Fraction(1), Fraction(9, 8))]
    table = growing(half, side, [[1, 1, 2], [2, 2, 2], [2, 2, 2]])
    return net(table, [2, 2], [2, 2], Fraction(1))


# Behind row 0 the crease to the south is the least one, so the pairs of a corner change places there.
FOLD_CHOICE = (1, 1, 2, 1, 1, 1, 1, 1, 1)


def small_fold_net():
    """A sheet with one plate wholly within that folds as a whole."""
    half = [(Fraction(2, 3), Fraction(1)), (Fraction(5, 8), Fraction(4, 3))]
    side = [half[0], (Fraction(3, 5), Fraction(2, 3))]
    return net(growing(half, side, [[2, 2], [1, 1]]), [2], [2], Fraction(1))


def stiff_net():
    """A sheet with nine inner corners in which nothing folds."""
    half = [(Fraction(9, 10), Fraction(11, 10)), (Fraction(10, 11), 1), (1, Fraction(12, 13))]
    side = [half[0], (1, Fraction(9, 8)), (Fraction(11, 12), Fraction(13, 12))]
    table = angles_net(half, side, [[Fraction(14, 13), Fraction(8, 9)], [Fraction(15, 14), 1]])
    return net(table, [2, 3], [2, 2], Fraction(1))


def uneven_nets():
    """Two sheets with still creases; some of their corners have m or n 0."""
    half = Fraction(1, 2)
    more = Fraction(3, 2)
    two = angles_net([(2, 2), (1, 1)], [(2, 2), (1, more)], [[2]])
    three = angles_net([(1, more), (more, more), (half, Fraction(2, 3))], [(1, more), (1, more)], [[1, 1]])
    return [net(two, [1], [3], Fraction(1)), net(three, [2, 3], [1], Fraction(1))]


def with_fins(sheet, many):
    """A sheet with thin plates of three corners more on the sides of its rim."""
    corners = [(worth(x), worth(y)) for x, y in sheet.corners]
    plates = list(sheet.plates)
    rim = sheet.rim
    up = Fraction(40, 399)
    for k in range(many):
        (ax, ay), (bx, by) = corners[rim[k]], corners[rim[(k + 1) % len(rim)]]
        dx, dy = bx - ax, by - ay
        plates.append((rim[(k + 1) % len(rim)], rim[k], len(corners)))
        corners.append((ax + dx / 2 + dy * up / 2, ay + dy / 2 - dx * up / 2))
    return Sheet([point(x, y) for x, y in corners], plates)


def wide_star(size):
    """One inner corner, its angles and places of about so many digits."""
    u, v = Fraction(10 ** size + 1, 10 ** size + 7), Fraction(10 ** size + 3, 10 ** size - 9)
    ways = net_ways([[(u, v)]])[0][0]
    tips = [step((0, 0), way, far) for way, far in zip(ways, (2, 3, 4, 5))]
    places = [(0, 0), *tips]
    for k in range(4):
        one, other = tips[k], tips[(k + 1) % 4]
        places.append((one[0] + other[0], one[1] + other[1]))
    return Sheet(points(*places), [(0, k + 1, k + 5, (k + 1) % 4 + 1) for k in range(4)])


def strip(widths, height=1, tip=None):
    """Rectangles side by side that go on to the east, and perhaps a triangle so wide behind them."""
    edges = [Fraction(0)]
    for wide in widths:
        edges.append(edges[-1] + Fraction(wide))
    many = len(edges)
    corners = points(*[(x, 0) for x in edges], *[(x, height) for x in edges])
    plates = [(k, k + 1, many + k + 1, many + k) for k in range(many - 1)]
    if tip is not None:
        corners.append(point(edges[-1] + Fraction(tip), Fraction(height) / 2))
        plates.append((many - 1, 2 * many, 2 * many - 1))
    return Sheet(corners, plates)


def chain_net(many):
    """A row of so many inner corners, m and n nowhere 0, each joined to the next one."""
    row = [(Fraction(k + 3, k + 4), Fraction(2 * k + 5, 2 * k + 4)) for k in range(many)]
    return net([row], [2] * (many - 1), [], Fraction(1))


def kites(many):
    """A chain of so many kites with an inner corner each; two of its creases are in one line, the others are not."""
    corners, plates, at = [], [], {}

    def number(x, y):
        if (x, y) not in at:
            at[(x, y)] = len(corners)
            corners.append(point(x, y))
        return at[(x, y)]

    tips = [(Fraction(x), Fraction(y)) for x, y in ((6, 0), (3, 4), (Fraction(-7, 3), 0), (3, -4))]
    middle, sign = (Fraction(0), Fraction(0)), 1
    for k in range(many):
        ring = [step(middle, tip, sign) for tip in tips]
        centre = number(*middle)
        names = [number(*place) for place in ring]
        plates += [(centre, names[j], names[(j + 1) % 4]) for j in range(4)]
        # The next one is this one turned by a half turn about the middle of a side.
        one, other = (ring[0], ring[1]) if k % 2 == 0 else (ring[2], ring[3])
        middle = (one[0] + other[0] - middle[0], one[1] + other[1] - middle[1])
        sign = -sign
    return Sheet(corners, plates)


def triangle_net(*tangents):
    """Three inner corners of a plate within, by the tangent of half the angle behind it at each of them."""
    spots = [(Fraction(x), Fraction(y)) for x, y in ((0, 0), (4, 0), (0, 3))]
    corners, plates, tips = list(spots), [(0, 1, 2)], []
    for k, tangent in enumerate(tangents):
        onward, back = [unit(spots[k], spots[(k + side) % 3]) for side in (1, 2)]
        tips.append((times(back, spin(tangent)), times(times(onward, spin(tangent)), (-1, 0))))
    ends = {}
    for k in range(3):
        one, other = spots[k], spots[(k + 1) % 3]
        far = step(one, tips[k][1], Fraction(1))
        near = meeting(far, (other[0] - one[0], other[1] - one[1]), other, tips[(k + 1) % 3][0])
        ends[k, 1], ends[(k + 1) % 3, 0] = len(corners), len(corners) + 1
        plates.append(((k + 1) % 3, k, len(corners), len(corners) + 1))
        corners += [far, near]
    for k in range(3):
        one, other = corners[ends[k, 0]], corners[ends[k, 1]]
        plates.append((k, ends[k, 0], len(corners), ends[k, 1]))
        corners.append((one[0] + other[0] - spots[k][0], one[1] + other[1] - spots[k][1]))
    return Sheet([point(x, y) for x, y in corners], plates)


def unit(one, other):
    """The vector of length 1 from one point to another one, whose distance is a whole number."""
    x, y = other[0] - one[0], other[1] - one[1]
    size = next(k for k in range(1, 99) if k * k == x * x + y * y)
    return (x / size, y / size)


def triangle_nets():
    """Such sheets with nine creases: of one all fold, of the others six, three and none."""
    half = Fraction(1, 2)
    return [triangle_net(*told) for told in ((half, 2, 2), (1, 1, half), (1, 1, 2), (1, 1, 1))]
