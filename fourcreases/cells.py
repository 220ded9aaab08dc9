"""Tables of pairs (u, v), wishes for them, and the cells between their corners."""
from fourcreases.errors import BadTable, BadWish
from fourcreases.flat import cross
from fourcreases.kinds import is_fraction, is_pick_row, is_row, is_tuple_of
from fourcreases.spins import both_spins, spin_of

# The ways from a corner, in the order in which its four numbers are told.
EAST = 0
NORTH = 1
WEST = 2
SOUTH = 3


def is_angle_pair(thing):
    """Tell whether something is a pair of fractions above 0."""
    if not is_tuple_of(thing, 2) or not is_fraction(thing[0]) or not is_fraction(thing[1]):
        return False
    return thing[0][0] > 0 and thing[1][0] > 0


def is_pair_row(thing):
    """Tell whether something is a row of 1 to 4 pairs of fractions above 0."""
    if not is_row(thing) or not 1 <= len(thing) <= 4:
        return False
    for pair in thing:
        if not is_angle_pair(pair):
            return False
    return True


def check_table(table):
    """Raise BadTable unless this is a row of 1 to 4 equally long rows of pairs."""
    if not is_row(table) or not 1 <= len(table) <= 4:
        raise BadTable()
    for row in table:
        if not is_pair_row(row) or len(row) != len(table[0]):
            raise BadTable()


def check_wish(wish, columns, rows):
    """Raise BadWish unless this is so many rows of so many integers 1 and 2."""
    if not is_row(wish) or len(wish) != rows:
        raise BadWish()
    for row in wish:
        if not is_pick_row(row, columns):
            raise BadWish()


def cell_places(columns, rows):
    """The list of the places (i, j) of the cells of a table, by rows."""
    return [(i, j) for j in range(rows - 1) for i in range(columns - 1)]


def closes_round(table, i, j):
    """Tell whether the four angles inside a cell make a whole turn."""
    south = both_spins(spin_of(table[j][i][0]), spin_of(table[j][i + 1][1]))
    north = both_spins(spin_of(table[j + 1][i + 1][0]), spin_of(table[j + 1][i][1]))
    # Both lie between 0 and a half turn, so they are one angle if they are on one line.
    return cross(south, north) == 0
