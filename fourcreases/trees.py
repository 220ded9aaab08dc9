"""Trees of cases: papers on creases that never fold, and on spaces that have all stands.

A way through a tree is kept as the dict from the corners that it splits to what it tells of
them: 1 for the first line, 2 for the second one, 3 for both.
"""
from fourcreases.cases import ZEROS, case_rows
from fourcreases.choices import motion_choices, moving_part, places_agreeing
from fourcreases.corners import far_end
from fourcreases.errors import BadSpaces
from fourcreases.kinds import is_integer, is_row, is_tuple_of
from fourcreases.knots import knots_of, place_of
from fourcreases.motions import can_fold
from fourcreases.spans import Span
from fourcreases.stands import are_numbers

DEEPEST = 12


def knots_by_corner(sheet):
    """The dict from the inner corners to their knots."""
    return dict(zip(sheet.inner, knots_of(sheet)))


def told_on(knots, way):
    """What a way tells, in the form of `case_rows`."""
    told = []
    for corner in way:
        places, lines = knots[corner]
        # The two lines of a corner have nothing but zeros in common.
        told.append((places, ZEROS if way[corner] == 3 else lines[way[corner] - 1]))
    return told


def way_on(way, corner, pick):
    """The way that goes on from a split of a corner to its first or second line."""
    return {**way, corner: way.get(corner, 0) | pick}


def rows_of_way(sheet, knots, way):
    """The reduced rows of all numbers that keep what a way tells."""
    return case_rows(len(sheet.creases), told_on(knots, way))


def keeps_still(sheet, knots, way, place):
    """Tell whether all numbers that keep what a way tells have 0 at a place."""
    for row in rows_of_way(sheet, knots, way):
        if place in row:
            return False
    return True


def ends_hold(knots, thing, way, deepest, holds):
    """Tell whether something is a tree, not deeper than told, each end of which holds behind its way."""
    if not is_tuple_of(thing, 4):
        return holds(thing, way)
    word, corner, first, second = thing
    if word != "split" or not is_integer(corner) or corner not in knots or deepest < 2:
        return False
    if not ends_hold(knots, first, way_on(way, corner, 1), deepest - 1, holds):
        return False
    return ends_hold(knots, second, way_on(way, corner, 2), deepest - 1, holds)


def corners_near(sheet, creases):
    """The inner corners to which chains of inner corners lead from some creases, the near ones first."""
    row = []
    for crease in creases:
        row.extend([corner for corner in crease if corner in sheet.inner and corner not in row])
    at = 0
    while at < len(row):
        here = row[at]
        for beyond in sheet.around(here):
            corner = far_end(beyond, here)
            if corner in sheet.inner and corner not in row:
                row.append(corner)
        at += 1
    return row


def split_tree(corners, way, holds):
    """A tree behind a way with leaves where something holds, split at as many of the corners as needed."""
    if holds(way):
        return ("leaf",)
    corner = corners[len(way)]
    first, second = [split_tree(corners, way_on(way, corner, pick), holds) for pick in (1, 2)]
    return ("split", corner, first, second)


def never_tree(sheet, crease):
    """A never tree for a crease, None if the crease folds."""
    if can_fold(sheet, crease):
        return None
    place = place_of(sheet, crease)
    knots = knots_by_corner(sheet)
    return split_tree(corners_near(sheet, [crease]), {}, lambda way: keeps_still(sheet, knots, way, place))


def is_never_tree(sheet, crease, thing):
    """Tell whether something is a never tree for a crease."""
    place = place_of(sheet, crease)
    knots = knots_by_corner(sheet)

    def holds(end, way):
        return is_tuple_of(end, 1) and end[0] == "leaf" and keeps_still(sheet, knots, way, place)

    return ends_hold(knots, thing, {}, DEEPEST, holds)


def motion_tree(sheet, knots, choices, start):
    """An all tree for the choices of a sheet that begin as told."""
    if len(start) == len(sheet.inner):
        return ("motion", places_agreeing(choices, moving_part(knots, start))[0])
    first, second = [motion_tree(sheet, knots, choices, (*start, pick)) for pick in (1, 2)]
    return ("split", sheet.inner[len(start)], first, second)


def all_tree(sheet):
    """A tree for the motions of a sheet."""
    return motion_tree(sheet, knots_of(sheet), motion_choices(sheet), ())


def check_spaces(sheet, spaces):
    """Raise BadSpaces unless these are at most 600 rows of numbers of a sheet."""
    if not is_row(spaces) or len(spaces) > 600:
        raise BadSpaces(-1)
    for at, rows in enumerate(spaces):
        if not is_row(rows):
            raise BadSpaces(at)
        for row in rows:
            if not are_numbers(sheet, row):
                raise BadSpaces(at)


def are_within(rows, span):
    """Tell whether all of some rows lie in a space."""
    for row in rows:
        if not span.has(row):
            return False
    return True


def is_all_tree(sheet, spaces, thing):
    """Tell whether something is a tree by which all stands lie in some spaces."""
    check_spaces(sheet, spaces)
    knots = knots_by_corner(sheet)
    spans = [Span(rows) for rows in spaces]

    def holds(end, way):
        if not is_tuple_of(end, 2) or end[0] != "motion" or not is_integer(end[1]):
            return False
        if not 0 <= end[1] < len(spaces):
            return False
        return are_within(rows_of_way(sheet, knots, way), spans[end[1]])

    return ends_hold(knots, thing, {}, DEEPEST, holds)
