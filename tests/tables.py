"""Tables for the tests, and what is asked of them, by the words of the document and Python's fractions."""
from fractions import Fraction
from math import atan, exp, pi

from tests.makers import fractions_mn, line_of_choice, net_ways, pair, times, worth


def told_table(rows):
    """A table of the package for rows of pairs of numbers."""
    return tuple(tuple((pair(u), pair(v)) for u, v in row) for row in rows)


def known_table(table):
    """A table of Python's fractions for one of the package."""
    return [[(worth(u), worth(v)) for u, v in row] for row in table]


def random_number(random, high=9):
    return Fraction(random.randint(1, high), random.randint(1, high))


FEW = [Fraction(1), Fraction(1, 2), Fraction(2), Fraction(1, 3), Fraction(3), Fraction(1, 4), Fraction(4)]


def few_of(random):
    """A number of a few, so that some angles are just a half turn together."""
    return random.choice(FEW)


def long_number(random, spread=1):
    """A number of 40 digits above and below, not too far from 1."""
    bottom = random.randint(10 ** 38, 10 ** 39)
    return Fraction(int(bottom * exp(random.uniform(-spread, spread))) + 1, bottom)


def corner_left(table, i, j):
    """The u that a cell leaves for its corner in the north-east, as a vector (cosine, sine) of half the angle."""
    one, other, less = table[j - 1][i - 1][0], table[j - 1][i][1], table[j][i - 1][1]
    return times(times((1, one), (1, other)), (1, -less))


def fitting_table(random, columns, rows, number):
    """A table that fits together, as rows of Python's fractions."""
    while True:
        table = [[None] * columns for _ in range(rows)]
        fits = True
        for j in range(rows):
            for i in range(columns):
                u = number(random)
                if i > 0 and j > 0 and fits:
                    x, y = corner_left(table, i, j)
                    fits = x > 0 and y > 0
                    u = y / x if fits else u
                table[j][i] = (u, number(random))
        if fits:
            return table


def fits_by_angles(table):
    """Tell by angles, near enough, whether a table fits together."""
    for low, high in zip(table, table[1:]):
        for k in range(len(low) - 1):
            sw, se, ne, nw = low[k], low[k + 1], high[k + 1], high[k]
            # The two angles in the north are those opposite to the told ones.
            angles = 2 * atan(sw[0]) + 2 * atan(se[1]) + (pi - 2 * atan(ne[0])) + (pi - 2 * atan(nw[1]))
            if abs(angles - 2 * pi) > 1e-9:
                return False
    return True


def lines_of(table, wish):
    return [[line_of_choice(u, v, pick) for (u, v), pick in zip(row, picks)] for row, picks in zip(table, wish)]


def cell_product(sw, se, ne, nw):
    """The product of the quotients round a cell of what its lines have to the east, north, west and south."""
    return Fraction(sw[0]) / sw[1] * se[1] / se[2] * ne[2] / ne[3] * nw[3] / nw[0]


def fulfils_by_words(table, wish):
    for row, picks in zip(table, wish):
        for (u, v), pick in zip(row, picks):
            if fractions_mn(u, v)[pick - 1] == 0:
                return False
    lines = lines_of(table, wish)
    return fits_by_angles(table) and all(
        cell_product(low[k], low[k + 1], high[k + 1], high[k]) == 1
        for low, high in zip(lines, lines[1:]) for k in range(len(low) - 1)
    )


def grow(first_row, first_column, wish):
    """The table that grows, as rows of Python's fractions, or the triple that bars it."""
    table = [[None] * len(first_row) for _ in first_column]
    lines = [[None] * len(first_row) for _ in first_column]
    for j, start in enumerate(first_column):
        for i, end in enumerate(first_row):
            pick = wish[j][i]
            if i == 0 or j == 0:
                u, v = end if j == 0 else start
                if fractions_mn(u, v)[pick - 1] == 0:
                    return ("zero", i, j)
            else:
                x, y = corner_left(table, i, j)
                if x <= 0 or y <= 0:
                    return ("angle", i, j)
                u = y / x
                sw, se, nw = lines[j - 1][i - 1], lines[j - 1][i], lines[j][i - 1]
                # What is left for west by south at the new corner.
                left = 1 / (Fraction(sw[0]) / sw[1] * se[1] / se[2] * nw[3] / nw[0])
                if pick == 1 and not abs(left) > 1 or pick == 2 and not abs(left) < 1:
                    return ("side", i, j)
                v = (left - 1) / (left + 1) / u if pick == 1 else u * (1 + left) / (1 - left)
            table[j][i] = (u, v)
            lines[j][i] = line_of_choice(u, v, pick)
    return table


def sides_of(columns, rows):
    return [("across", i, j) for j in range(rows) for i in range(columns - 1)] + [
        ("up", i, j) for j in range(rows - 1) for i in range(columns)
    ]


def close_by_words(table, across, up):
    """Tell whether the four sides of each cell close, drawn with the angles of the table."""
    ways = net_ways(table)
    for j in range(len(table) - 1):
        for i in range(len(table[0]) - 1):
            south, east = ways[j][i][0], ways[j][i + 1][1]
            north, west = ways[j + 1][i][0], ways[j][i][1]
            for k in (0, 1):
                round_it = across[j][i] * south[k] + up[j][i + 1] * east[k] - across[j + 1][i] * north[k] - up[j][i] * west[k]
                if round_it != 0:
                    return False
    return True


def gains_by_words(table, vectors):
    """What each side gets from the vectors of the cells beside it."""
    ways = net_ways(table)
    columns, rows = len(table[0]), len(table)
    gains = []
    for word, i, j in sides_of(columns, rows):
        lead = ways[j][i][0 if word == "across" else 1]
        more, less = ((i, j), (i, j - 1)) if word == "across" else ((i - 1, j), (i, j))
        gain = Fraction(0)
        for sign, (a, b) in ((1, more), (-1, less)):
            if 0 <= a < columns - 1 and 0 <= b < rows - 1:
                x, y = vectors[b][a]
                gain += sign * (x * lead[0] + y * lead[1])
        gains.append(gain)
    return gains
