"""Creases that drive other ones: whose number tells another number."""
from fourcreases.knots import place_of
from fourcreases.parts import parts_of, rows_of, scaled_row, stand_of
from fourcreases.ratios import NOUGHT, UNIT, divided


def driving(sheet, crease, other):
    """The ratios that rows show, a row for each, and the first row that moves the other crease alone or None."""
    here, there = place_of(sheet, crease), place_of(sheet, other)
    ratios = {}
    for row in rows_of(parts_of(sheet)):
        if here in row:
            ratios.setdefault(divided(row.get(there, NOUGHT), row[here]), scaled_row(row, divided(UNIT, row[here])))
        elif there in row:
            return ratios, row
    return ratios, None


def drive_of(sheet, crease, other):
    """What the number of one crease is multiplied by to give that of the other in each stand, None if it varies."""
    ratios, loose = driving(sheet, crease, other)
    if loose is not None or len(ratios) > 1:
        return None
    # Where neither of the two folds, no row shows a ratio.
    return list(ratios)[0] if ratios else NOUGHT


def undriven(sheet, crease, other):
    """A pair of stands with the same number at one crease and unlike ones at the other, None if there are none."""
    ratios, loose = driving(sheet, crease, other)
    if loose is not None:
        return (stand_of(sheet, {}), stand_of(sheet, loose))
    rows = [stand_of(sheet, ratios[ratio]) for ratio in ratios]
    return (rows[0], rows[1]) if len(rows) > 1 else None
