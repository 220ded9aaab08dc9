"""Nets as sheets: the inner corners of a table, with plates all round."""
from fourcreases.cells import EAST, NORTH, SOUTH, WEST, cell_places
from fourcreases.errors import BadLengths, BadNumber, BadTable
from fourcreases.kinds import is_fraction
from fourcreases.lengths import are_lengths
from fourcreases.ratios import NOUGHT, divided, lowest, minus, plus, times
from fourcreases.sheets import Sheet
from fourcreases.sides import east_spins
from fourcreases.spins import both_spins, reach_of, spin_of, vector_at
from fourcreases.tables import fits_together


def check_net(table):
    """Raise BadTable unless this is a table of at least 2 columns and rows and at most 9 corners that fits together."""
    if not fits_together(table) or len(table) < 2 or len(table[0]) < 2 or len(table) * len(table[0]) > 9:
        raise BadTable()


def unit_vector(spin, sign):
    """The vector of length 1 at the angle of a spin, or the opposite one for the sign -1."""
    x, y = vector_at(spin)
    size = reach_of(spin)
    return (lowest(sign * x, size), lowest(sign * y, size))


def leads_of(table):
    """The dict from the corners to the vectors of length 1 along their creases to the east, north, west and south."""
    leads = {}
    spins = east_spins(table)
    for i, j in spins:
        u, v = table[j][i]
        east = spins[(i, j)]
        north, south = both_spins(east, spin_of(u)), both_spins(east, spin_of(v))
        west = both_spins(north, spin_of(v))
        # The angle from the south to the east is a half turn less that of v.
        leads[(i, j)] = (unit_vector(east, 1), unit_vector(north, 1), unit_vector(west, 1), unit_vector(south, -1))
    return leads


def onward(point, lead, size):
    """The point that lies so far from a point along a vector of length 1."""
    return (plus(point[0], times(lead[0], size)), plus(point[1], times(lead[1], size)))


def spots_of(leads, across, up):
    """The dict from the corners to their points."""
    points = {(0, 0): (NOUGHT, NOUGHT)}
    for i, j in leads:
        if i > 0:
            points[(i, j)] = onward(points[(i - 1, j)], leads[(i - 1, j)][EAST], across[j][i - 1])
        elif j > 0:
            points[(i, j)] = onward(points[(i, j - 1)], leads[(i, j - 1)][NORTH], up[j - 1][i])
    return points


def sine_between(one, other):
    """The sine of the angle, below a half turn, between two vectors of length 1."""
    top, bottom = minus(times(one[0], other[1]), times(one[1], other[0]))
    return (abs(top), bottom)


def tip_of(way, corner):
    """The name of the end of a crease at a corner of a net that leads outwards."""
    i, j = corner
    return (way, i, j)


def lay_tips(points, leads, edge, depth):
    """Add the ends of the creases of an edge, so that each outer side is parallel to the one between two corners.

    An edge is the way of its creases, the way from each corner to the next one, and the row of its corners.
    The points are told by names: (i, j) for a corner, `tip_of` it for the end of a crease.
    """
    way, along, row = edge
    size = divided(depth, sine_between(leads[row[0]][way], leads[row[0]][along]))
    for at, corner in enumerate(row):
        if at > 0:
            ahead = leads[row[at - 1]]
            height = times(size, sine_between(ahead[way], ahead[along]))
            size = divided(height, sine_between(leads[corner][way], ahead[along]))
        points[tip_of(way, corner)] = onward(points[corner], leads[corner][way], size)


def edge_plates(edge):
    """The list of the plates beyond an edge, told by the names of their points."""
    way, _, row = edge
    plates = []
    for at in range(1, len(row)):
        plate = [tip_of(way, row[at - 1]), tip_of(way, row[at]), row[at], row[at - 1]]
        # What lies in the south or east is on the right of this way along the edge.
        plates.append(plate if way in (SOUTH, EAST) else plate[::-1])
    return plates


def lay_beside(points, corner, one, other):
    """Add the last corner of the plate between two ways at a corner of the net, and return the plate."""
    near, far = points[tip_of(one, corner)], points[tip_of(other, corner)]
    middle = points[corner]
    points[(one,)] = (minus(plus(near[0], far[0]), middle[0]), minus(plus(near[1], far[1]), middle[1]))
    return [corner, tip_of(one, corner), (one,), tip_of(other, corner)]


def edges_of(columns, rows):
    """The list of the four edges of a net."""
    return [
        (SOUTH, EAST, [(i, 0) for i in range(columns)]),
        (EAST, NORTH, [(columns - 1, j) for j in range(rows)]),
        (NORTH, EAST, [(i, rows - 1) for i in range(columns)]),
        (WEST, NORTH, [(0, j) for j in range(rows)]),
    ]


def laid_net(points, leads, columns, rows, depth):
    """The list of the plates of a net, told by the names of their points, which are added."""
    plates = [[(i, j), (i + 1, j), (i + 1, j + 1), (i, j + 1)] for i, j in cell_places(columns, rows)]
    for edge in edges_of(columns, rows):
        lay_tips(points, leads, edge, depth)
        plates.extend(edge_plates(edge))
    plates.append(lay_beside(points, (0, 0), WEST, SOUTH))
    plates.append(lay_beside(points, (columns - 1, 0), SOUTH, EAST))
    plates.append(lay_beside(points, (columns - 1, rows - 1), EAST, NORTH))
    plates.append(lay_beside(points, (0, rows - 1), NORTH, WEST))
    return plates


def sheet_of(table, across, up, depth):
    """The sheet whose inner corners are those of a table, with lengths for their sides and plates round them."""
    check_net(table)
    if not are_lengths(table, (across, up)):
        raise BadLengths()
    if not is_fraction(depth) or depth[0] <= 0:
        raise BadNumber("depth")
    leads = leads_of(table)
    points = spots_of(leads, across, up)
    plates = laid_net(points, leads, len(table[0]), len(table), depth)
    numbers = {name: number for number, name in enumerate(points)}
    return Sheet(list(points.values()), [[numbers[name] for name in plate] for plate in plates])
