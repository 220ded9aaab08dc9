"""The parts of a sheet that move each by itself.

A part is some inner corners that are tied together by creases, with all their creases, or a crease
without an inner end. Each stand is a sum of stands of the parts, and each such sum is a stand: so
what is asked of a part is answered by its own motions, of which there are far fewer.
"""
from fourcreases.cases import case_rows, whole_row
from fourcreases.choices import greatest_choices, told_by
from fourcreases.knots import knots_of
from fourcreases.ratios import UNIT, times


def are_tied(knot, part):
    """Tell whether a knot has a place in common with one of some others."""
    for places, _ in part:
        for place in places:
            if place in knot[0]:
                return True
    return False


def tied_knots(knots):
    """The list of the lots of knots that are tied together."""
    parts = []
    for knot in knots:
        joined = [knot]
        others = []
        for part in parts:
            if are_tied(knot, part):
                joined.extend(part)
            else:
                others.append(part)
        parts = [*others, joined]
    return parts


class Part:
    """The places of the creases of a part, and its motions: lists of rows as dicts, no two with a place in common."""

    def __init__(self, places, motions):
        self.places = places
        self.motions = motions


def part_of(knots):
    """The part of some knots that are tied together."""
    places = {}
    for own, _ in knots:
        for place in own:
            places[place] = True
    # Without any creases beside theirs these are the rows of the knots alone.
    return Part(list(places), [case_rows(0, told_by(knots, choice)) for choice in greatest_choices(knots)])


def parts_of(sheet):
    """The list of the parts of a sheet."""
    parts = [part_of(knots) for knots in tied_knots(knots_of(sheet))]
    taken = {}
    for part in parts:
        for place in part.places:
            taken[place] = True
    free = [place for place in range(len(sheet.creases)) if place not in taken]
    return parts + [Part([place], [[{place: UNIT}]]) for place in free]


def rows_of(parts):
    """The list of the rows of all motions of some parts."""
    return [row for part in parts for rows in part.motions for row in rows]


def stand_of(sheet, row):
    """The stand of a sheet that a dict of its numbers other than 0 tells."""
    return whole_row(len(sheet.creases), row)


def scaled_row(row, factor):
    """A dict of fractions, each one times a fraction."""
    return {place: times(row[place], factor) for place in row}
