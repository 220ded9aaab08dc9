"""The sides of a net: how their lengths depend on a few, and where they point.

A side is a triple (way, i, j), the way EAST or NORTH: the one from the corner (i, j) to its east or
north. The lengths of the southernmost row and of the westernmost column settle all others.
"""
from fourcreases.cells import EAST, NORTH, cell_places
from fourcreases.kinds import is_fraction_row, is_row, is_tuple_of
from fourcreases.ratios import NOUGHT, UNIT, divided, opposite, plus, times
from fourcreases.spins import back_spin, both_spins, sine_of, spin_of

HALF_TURN = (0, 1)


def cell_sides(i, j):
    """The sides of a cell in the south, west, north and east."""
    return (EAST, i, j), (NORTH, i, j), (EAST, i, j + 1), (NORTH, i + 1, j)


def cell_ratios(table, i, j):
    """What comes of the south and of the west side of a cell in the north one, and then in the east one."""
    ahead, behind = spin_of(table[j][i + 1][1]), spin_of(table[j + 1][i][1])
    last = spin_of(table[j + 1][i + 1][0])
    sine = sine_of(last)
    north = (divided(sine_of(ahead), sine), divided(opposite(sine_of(both_spins(last, behind))), sine))
    east = (divided(sine_of(both_spins(last, back_spin(ahead))), sine), divided(sine_of(behind), sine))
    return north, east


def weighed_sum(ratios, one, other):
    """The sum of two fractions, each one times its ratio."""
    return plus(times(ratios[0], one), times(ratios[1], other))


def first_sides(columns, rows):
    """The list of the sides in the southernmost row and in the westernmost column."""
    return [(EAST, i, 0) for i in range(columns - 1)] + [(NORTH, 0, j) for j in range(rows - 1)]


def all_sides(columns, rows):
    """The list of all sides of a net, the first ones ahead, then those nearer to the corner (0, 0) first."""
    firsts = first_sides(columns, rows)
    sides = [(EAST, i, j) for j in range(rows) for i in range(columns - 1)]
    sides.extend([(NORTH, i, j) for j in range(rows - 1) for i in range(columns)])
    others = sorted([(i + j, way, i, j) for way, i, j in sides if (way, i, j) not in firsts])
    return firsts + [(way, i, j) for _, way, i, j in others]


def side_forms(table):
    """The dict from each side to the tuple of what comes of each of the first ones in its length."""
    columns, rows = len(table[0]), len(table)
    firsts = first_sides(columns, rows)
    forms = {first: tuple([UNIT if first == other else NOUGHT for other in firsts]) for first in firsts}
    for i, j in cell_places(columns, rows):
        south, west, north, east = cell_sides(i, j)
        for side, ratios in zip((north, east), cell_ratios(table, i, j)):
            forms[side] = tuple([weighed_sum(ratios, one, other) for one, other in zip(forms[south], forms[west])])
    return forms


def are_rows_above(thing, rows, many):
    """Tell whether something is so many rows of so many fractions above 0."""
    if not is_row(thing) or len(thing) != rows:
        return False
    for row in thing:
        if not is_fraction_row(row, many) or [one for one in row if one[0] <= 0]:
            return False
    return True


def lengths_told(thing, columns, rows):
    """The dict from the sides of a net to the lengths that a pair of rows tells, None if it is no such pair."""
    if not is_tuple_of(thing, 2):
        return None
    across, up = thing
    if not are_rows_above(across, rows, columns - 1) or not are_rows_above(up, rows - 1, columns):
        return None
    lengths = {(EAST, i, j): one for j, row in enumerate(across) for i, one in enumerate(row)}
    lengths.update({(NORTH, i, j): one for j, row in enumerate(up) for i, one in enumerate(row)})
    return lengths


def cell_closes(table, lengths, i, j):
    """Tell whether the four sides of a cell close."""
    south, west, north, east = cell_sides(i, j)
    for side, ratios in zip((north, east), cell_ratios(table, i, j)):
        if lengths[side] != weighed_sum(ratios, lengths[south], lengths[west]):
            return False
    return True


def east_spins(table):
    """The dict from the corners to the spins from the first one's east to theirs."""
    spins = {}
    for j, row in enumerate(table):
        for i, (u, v) in enumerate(row):
            if i > 0:
                # The side ahead points to here, and from its way back three angles lead round to the east.
                turn = back_spin(both_spins(spin_of(u), spin_of(v)))
                spins[(i, j)] = both_spins(both_spins(spins[(i - 1, j)], HALF_TURN), turn)
            elif j > 0:
                ahead = both_spins(spins[(0, j - 1)], spin_of(table[j - 1][0][0]))
                spins[(i, j)] = both_spins(ahead, back_spin(spin_of(v)))
            else:
                spins[(i, j)] = (1, 0)
    return spins


def side_spins(table):
    """The dict from the sides to the spins of their directions."""
    spins = east_spins(table)
    found = {(EAST, i, j): spins[(i, j)] for i, j in spins}
    for i, j in spins:
        found[(NORTH, i, j)] = both_spins(spins[(i, j)], spin_of(table[j][i][0]))
    return found
