"""Sheets that are folded flat."""
from fourcreases.knots import knots_of
from fourcreases.lots import check_lot
from fourcreases.placings import corner_points, plate_turns
from fourcreases.stands import check_stand

STAYING = (0, 1)
# Half a turn is what turns come near to as their tangents grow: a fraction with bottom 0, so to speak.
SHUT = (1, 0)


def lies_flat(lines, shut):
    """Tell whether a corner with these two lines can lie flat if told ones of its four creases are shut."""
    if shut in ([False] * 4, [True] * 4):
        return True
    # A line has zeros exactly where the creases of the other pair are in one line.
    return shut in [[worth[0] != 0 for worth in line] for line in lines]


def flat_placing(sheet, lot):
    """The points of the corners of each plate if just the creases of a lot are shut, None if they cannot be so."""
    check_lot(sheet, lot)
    numbers = [SHUT if crease in lot else STAYING for crease in sheet.creases]
    for places, lines in knots_of(sheet):
        if not lies_flat(lines, [numbers[place] == SHUT for place in places]):
            return None
    points = corner_points(sheet, plate_turns(sheet, numbers))
    return tuple([tuple([points[corner][:2] for corner in plate]) for plate in sheet.plates])


def pressed(sheet, numbers):
    """The flat placing of the creases at which a stand has another number than 0."""
    check_stand(sheet, numbers)
    return flat_placing(sheet, [crease for crease, number in zip(sheet.creases, numbers) if number[0] != 0])
