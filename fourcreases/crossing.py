"""Plates that pass through one another at a stand."""
from fourcreases.errors import NoPlate
from fourcreases.kinds import is_integer, is_space_point
from fourcreases.placings import corner_points, plate_turns, spot_points
from fourcreases.ratios import lowest
from fourcreases.sections import meeting_spot, plate_lines, points_from
from fourcreases.showing import gap, inner_product, outer_product, whole_points
from fourcreases.stands import check_stand


def check_plates_told(sheet, one, other):
    """Raise NoPlate unless these are the numbers of two unlike plates."""
    for number in (one, other):
        if not is_integer(number) or not 0 <= number < len(sheet.plates):
            raise NoPlate()
    if one == other:
        raise NoPlate()


def plate_points(sheet, points, number):
    """The list of the space points of a plate's corners."""
    return [points[corner] for corner in sheet.plates[number]]


def crossing_plates(sheet, numbers):
    """The ascending list of the pairs of plates that cross at a stand."""
    check_stand(sheet, numbers)
    pairs = []
    many = len(sheet.plates)
    for one in range(many):
        points = points_from(sheet, numbers, one)
        lines = plate_lines(sheet, one)
        for other in range(one + 1, many):
            if meeting_spot(plate_points(sheet, points, other), lines) is not None:
                pairs.append((one, other))
    return pairs


def crossing_point(sheet, numbers, one, other):
    """A space point within both of two plates at a stand, None if there is none."""
    check_stand(sheet, numbers)
    check_plates_told(sheet, one, other)
    points = points_from(sheet, numbers, one)
    spot = meeting_spot(plate_points(sheet, points, other), plate_lines(sheet, one))
    if spot is None:
        return None
    x, y, weight = spot
    return spot_points(sheet, numbers, [(one, (lowest(x, weight), lowest(y, weight)))])[0]


def lies_within(points, thing):
    """Tell whether a space point lies within the plate whose corners have some space points."""
    whole, _ = whole_points([*points, thing])
    corners, place = whole[:-1], whole[-1]
    normal = outer_product(gap(corners[0], corners[1]), gap(corners[0], corners[2]))
    if inner_product(normal, gap(corners[0], place)) != 0:
        return False
    for at, corner in enumerate(corners):
        side = outer_product(gap(corners[at - 1], corner), gap(corners[at - 1], place))
        if inner_product(normal, side) <= 0:
            return False
    return True


def is_crossing(sheet, numbers, one, other, thing):
    """Tell whether something is a space point within both of two plates at a stand."""
    check_stand(sheet, numbers)
    check_plates_told(sheet, one, other)
    if not is_space_point(thing):
        return False
    points = corner_points(sheet, plate_turns(sheet, numbers))
    for number in (one, other):
        if not lies_within(plate_points(sheet, points, number), thing):
            return False
    return True
