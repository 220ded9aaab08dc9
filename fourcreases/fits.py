"""Numbers that have told ones at some places."""
from fourcreases.parts import parts_of
from fourcreases.ratios import NOUGHT, divided, times


def fit_of(rows, told):
    """The sum of multiples of rows that has the told numbers, and the rows of which any multiple may be added.

    The rows are dicts, no two with a place in common, and what is told is a dict, too. None if there is no such sum.
    """
    base = {}
    free = []
    for row in rows:
        scales = [divided(told[place], row[place]) for place in row if place in told]
        if scales:
            for place in row:
                base[place] = times(scales[0], row[place])
        else:
            free.append(row)
    for place in told:
        if base.get(place, NOUGHT) != told[place]:
            return None
    return base, free


def part_fits(part, told):
    """The list of what fits in the motions of a part, as `fit_of` tells it."""
    own = {place: told[place] for place in part.places if place in told}
    return [found for found in [fit_of(rows, own) for rows in part.motions] if found is not None]


def fitted_parts(sheet, told):
    """The list of the parts of a sheet, each one with what fits in it."""
    return [(part, part_fits(part, told)) for part in parts_of(sheet)]
