"""Tables: the angles of nets of four-sided plates, and how such nets grow corner by corner."""
from fourcreases.cells import (
    EAST, NORTH, SOUTH, WEST, cell_places, check_table, check_wish, closes_round, is_pair_row,
)
from fourcreases.corners import first_line, lines_with, second_line, told_fractions
from fourcreases.errors import BadTable
from fourcreases.ratios import NOUGHT, UNIT, divided, lowest, minus, plus, times
from fourcreases.spins import back_spin, both_spins, spin_of


def fits_together(table):
    """Tell whether in each cell of a table the four angles inside make a whole turn."""
    check_table(table)
    for i, j in cell_places(len(table[0]), len(table)):
        if not closes_round(table, i, j):
            return False
    return True


def quotient(line, onward, back):
    """What a line has to one side, divided by what it has to another one."""
    return divided(line[onward], line[back])


def three_quotients(lines, i, j):
    """The product of the quotients of a cell at all its corners but the one in the north-east."""
    south = times(quotient(lines[j][i], EAST, NORTH), quotient(lines[j][i + 1], NORTH, WEST))
    return times(south, quotient(lines[j + 1][i], SOUTH, EAST))


def fulfils(table, wish):
    """Tell whether a table fits together, and all creases of its net can fold by a wish."""
    check_table(table)
    columns, rows = len(table[0]), len(table)
    check_wish(wish, columns, rows)
    if not fits_together(table):
        return False
    lines = []
    for row, picks in zip(table, wish):
        lines.append([lines_with(pair)[pick - 1] for pair, pick in zip(row, picks)])
        if [line for line in lines[-1] if NOUGHT in line]:
            return False
    for i, j in cell_places(columns, rows):
        if times(three_quotients(lines, i, j), quotient(lines[j + 1][i + 1], WEST, SOUTH)) != UNIT:
            return False
    return True


def last_tangent(table, i, j):
    """The tangent u that a cell leaves for its corner in the north-east, None if it leaves no angle there."""
    south = both_spins(spin_of(table[j][i][0]), spin_of(table[j][i + 1][1]))
    x, y = both_spins(south, back_spin(spin_of(table[j + 1][i][1])))
    if x <= 0 or y <= 0:
        return None
    return lowest(y, x)


def other_tangent(u, pick, told):
    """The tangent v beside u at a corner whose fraction for a pick is told, None if there is none such."""
    if abs(told[0]) >= told[1]:
        return None
    less, more = minus(UNIT, told), plus(UNIT, told)
    # m is (1 - uv) / (1 + uv), n is (v - u) / (v + u).
    return divided(divided(less, more), u) if pick == 1 else times(divided(more, less), u)


def line_told(pick, told):
    """The line of a pick at a corner whose fraction for it is told."""
    return first_line(told) if pick == 1 else second_line(told)


def grow_corner(table, lines, pick, i, j):
    """Give a table its corner (i, j), both above 0, and the lines theirs; the word that tells what bars it, or None."""
    u = last_tangent(table, i - 1, j - 1)
    if u is None:
        return "angle"
    product = three_quotients(lines, i - 1, j - 1)
    # West divided by south is 1 / m on the first line, n on the second one.
    told = product if pick == 1 else divided(UNIT, product)
    v = other_tangent(u, pick, told)
    if v is None:
        return "side"
    table[j].append((u, v))
    lines[j].append(line_told(pick, told))
    return None


def set_corner(table, lines, pair, pick, j):
    """Give a table a told corner in a row, and the lines theirs; the word that tells what bars it, or None."""
    told = told_fractions(pair)[pick - 1]
    if told == NOUGHT:
        return "zero"
    table[j].append(pair)
    lines[j].append(line_told(pick, told))
    return None


def growth(first_row, first_column, wish):
    """The table that grows from a row and a column by a wish, and the bar at which it ends early, or None."""
    if not is_pair_row(first_row) or not is_pair_row(first_column) or first_row[0] != first_column[0]:
        raise BadTable()
    check_wish(wish, len(first_row), len(first_column))
    table = []
    lines = []
    for j, start in enumerate(first_column):
        table.append([])
        lines.append([])
        for i, end in enumerate(first_row):
            if i > 0 and j > 0:
                word = grow_corner(table, lines, wish[j][i], i, j)
            else:
                word = set_corner(table, lines, end if j == 0 else start, wish[j][i], j)
            if word is not None:
                return table, (word, i, j)
    return table, None


def grown(first_row, first_column, wish):
    """The table with a row 0 and a column 0 that fulfils a wish, None if there is none."""
    table, bar = growth(first_row, first_column, wish)
    if bar is not None:
        return None
    return tuple([tuple(row) for row in table])


def grown_bar(first_row, first_column, wish):
    """What bars the table with a row 0 and a column 0 that fulfils a wish, None if there is one."""
    return growth(first_row, first_column, wish)[1]
