"""Lengths of the sides of nets, and bars that show that there are none."""
from fourcreases.cells import EAST, NORTH, cell_places
from fourcreases.cones import above_all
from fourcreases.errors import BadTable
from fourcreases.polys import whole_poly
from fourcreases.pushes import gains_of, vectors_for, vectors_told
from fourcreases.ratios import lowest
from fourcreases.sides import all_sides, cell_closes, lengths_told, side_forms
from fourcreases.spans import slimmed
from fourcreases.tables import fits_together


def check_fitting(table):
    """Raise BadTable unless this is a table that fits together."""
    if not fits_together(table):
        raise BadTable()


def are_lengths(table, thing):
    """Tell whether something is lengths of a table."""
    check_fitting(table)
    columns, rows = len(table[0]), len(table)
    lengths = lengths_told(thing, columns, rows)
    if lengths is None:
        return False
    for i, j in cell_places(columns, rows):
        if not cell_closes(table, lengths, i, j):
            return False
    return True


def weighed_forms(table):
    """The list of the triples (side, row, weight) of all sides.

    The row tells what comes of each of the first ones in the length of a side, in integers, times the
    weight. The first sides stand ahead; the further behind a side stands, the longer are its integers.
    """
    forms = side_forms(table)
    found = []
    for side in all_sides(len(table[0]), len(table)):
        row, weight = whole_poly(forms[side])
        found.append((side, row, weight))
    return found


def settled(forms):
    """Numbers for the first sides by which all lengths are above 0, or None; and weights that bar them, or None."""
    rows = [form[1] for form in forms]
    many = len(rows[0]) if rows else 0
    if len(rows) == many:
        return [1 for _ in rows], None
    return above_all(rows[many:])


def lengths_for(table):
    """Lengths of a table, None if there are none."""
    check_fitting(table)
    forms = weighed_forms(table)
    numbers, _ = settled(forms)
    if numbers is None:
        return None
    lengths = {}
    for side, row, weight in forms:
        lengths[side] = lowest(sum([part * number for part, number in zip(row, numbers)]), weight)
    columns, rows = len(table[0]), len(table)
    across = tuple([tuple([lengths[(EAST, i, j)] for i in range(columns - 1)]) for j in range(rows)])
    return across, tuple([tuple([lengths[(NORTH, i, j)] for i in range(columns)]) for j in range(rows - 1)])


def length_bar(table):
    """A length bar of a table, None if there is none."""
    check_fitting(table)
    forms = weighed_forms(table)
    _, weights = settled(forms)
    if weights is None:
        return None
    gains = {}
    for at, (side, _, weight) in enumerate(forms):
        if at in weights:
            gains[side] = weights[at] * weight
    vectors = vectors_for(table, slimmed(gains))
    return tuple([tuple([vectors[(i, j)] for i in range(len(table[0]) - 1)]) for j in range(len(table) - 1)])


def is_length_bar(table, thing):
    """Tell whether something is a length bar of a table."""
    check_fitting(table)
    vectors = vectors_told(thing, len(table[0]), len(table))
    if vectors is None:
        return False
    tops = [top for top, _ in gains_of(table, vectors)]
    return min(tops, default=0) >= 0 and max(tops, default=0) > 0
