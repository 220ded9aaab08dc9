"""Vectors of the cells of a net, and what the sides of the net get from them.

A side gets what the vector of the cell to its north or west has more than the one of the cell to its
south or east, along its direction.
"""
from fourcreases.cells import EAST, cell_places
from fourcreases.flat import cross
from fourcreases.kinds import is_point, is_row
from fourcreases.ratios import lowest, minus, plus, times
from fourcreases.sides import all_sides, cell_sides, side_spins
from fourcreases.spins import reach_of, vector_at

STILL = ((0, 1), (0, 1))


def vectors_told(thing, columns, rows):
    """The dict from the cells of a net to the vectors that rows tell, None if they are no such rows."""
    if not is_row(thing) or len(thing) != rows - 1:
        return None
    vectors = {}
    for j, row in enumerate(thing):
        if not is_row(row) or len(row) != columns - 1:
            return None
        for i, vector in enumerate(row):
            if not is_point(vector):
                return None
            vectors[(i, j)] = vector
    return vectors


def along(vector, lead):
    """The inner product of a vector of fractions and one of integers."""
    return plus(times(vector[0], (lead[0], 1)), times(vector[1], (lead[1], 1)))


def gain_of(side, vectors, lead):
    """What a side that points along a vector of integers gets from the cells beside it, times the vector's length."""
    way, i, j = side
    # The cell (i, j) lies to the north of a side to the east, and to the east of one to the north.
    one, other = ((i, j), (i, j - 1)) if way == EAST else ((i - 1, j), (i, j))
    more, less = vectors.get(one, STILL), vectors.get(other, STILL)
    return along((minus(more[0], less[0]), minus(more[1], less[1])), lead)


def gains_of(table, vectors):
    """The list of what the sides of a net get from the vectors of the cells, each time times some number above 0."""
    spins = side_spins(table)
    sides = all_sides(len(table[0]), len(table))
    return [gain_of(side, vectors, vector_at(spins[side])) for side in sides]


def vector_with(lead, worth, other, weight):
    """The vector that has a told inner product with each of two vectors of integers."""
    under = lowest(1, cross(lead, other))
    return (
        times(along((worth, weight), (other[1], -lead[1])), under),
        times(along((weight, worth), (lead[0], -other[0])), under),
    )


def vectors_for(table, gains):
    """The dict from the cells to the vectors by which the sides get what a dict tells, 0 where it tells nothing."""
    spins = side_spins(table)
    vectors = {}
    for i, j in cell_places(len(table[0]), len(table))[::-1]:
        north, east = cell_sides(i, j)[2:]
        up, right = vector_at(spins[north]), vector_at(spins[east])
        above = minus(along(vectors.get((i, j + 1), STILL), up), (gains.get(north, 0) * reach_of(spins[north]), 1))
        beside = plus(along(vectors.get((i + 1, j), STILL), right), (gains.get(east, 0) * reach_of(spins[east]), 1))
        vectors[(i, j)] = vector_with(up, above, right, beside)
    return vectors
