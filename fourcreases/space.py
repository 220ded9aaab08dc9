"""Sheets in space: placings of stands, what they show, and distances of spots."""
from fourcreases.errors import NoPlacing, Shut
from fourcreases.kinds import is_row, is_space_point
from fourcreases.placings import check_spots, corner_points, plate_turns, spot_points
from fourcreases.ratios import lowest
from fourcreases.showing import are_congruent, shown_number, square_gap, whole_points
from fourcreases.stands import check_stand


def is_placed_plate(plate, thing):
    """Tell whether something is a row with a space point for each corner of a plate."""
    if not is_row(thing) or len(thing) != len(plate):
        return False
    for point in thing:
        if not is_space_point(point):
            return False
    return True


def points_of(sheet, placing):
    """The dict from the corners to their space points, None where plates do not agree or there is no row."""
    if not is_row(placing) or len(placing) != len(sheet.plates):
        return None
    points = {}
    for plate, row in zip(sheet.plates, placing):
        if not is_placed_plate(plate, row):
            return None
        for corner, point in zip(plate, row):
            if points.setdefault(corner, point) != point:
                return None
    return points


def is_placing(sheet, thing):
    """Tell whether something is a placing of a sheet."""
    if points_of(sheet, thing) is None:
        return False
    for plate, row in zip(sheet.plates, thing):
        if not are_congruent([sheet.corners[corner] for corner in plate], row):
            return False
    return True


def placed(sheet, numbers):
    """The placing of a stand."""
    check_stand(sheet, numbers)
    points = corner_points(sheet, plate_turns(sheet, numbers))
    return tuple([tuple([points[corner] for corner in plate]) for plate in sheet.plates])


def shown_numbers(sheet, placing):
    """The numbers that a placing shows."""
    if not is_placing(sheet, placing):
        raise NoPlacing()
    points = points_of(sheet, placing)
    numbers = []
    for crease in sheet.creases:
        number = shown_number(sheet, points, crease)
        if number is None:
            raise Shut(crease)
        numbers.append(number)
    return tuple(numbers)


def gap2(sheet, numbers, one, other):
    """The square of the distance of two spots in the placing of a stand."""
    check_spots(sheet, numbers, [one, other])
    (here, there), weight = whole_points(spot_points(sheet, numbers, [one, other]))
    return lowest(square_gap(here, there), weight * weight)


def spot_at(sheet, numbers, spot):
    """The space point of a spot in the placing of a stand."""
    check_spots(sheet, numbers, [spot])
    return spot_points(sheet, numbers, [spot])[0]
