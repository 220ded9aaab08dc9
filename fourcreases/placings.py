"""Where the plates of a stand lie in space."""
from fourcreases.errors import NoSpot
from fourcreases.flat import arrow, lines_of, side_of, size_of, spread
from fourcreases.kinds import is_integer, is_point, is_tuple_of
from fourcreases.ratios import NOUGHT, lowest, plus
from fourcreases.stands import check_stand
from fourcreases.turning import REST, turn_behind, turned


def hinges_of(sheet):
    """For each plate the list of its hinges: (plate beyond, place of the crease, sign of a turn to there)."""
    rows = [[] for _ in sheet.plates]
    for place, crease in enumerate(sheet.creases):
        left, right = sheet.beside(crease)
        rows[right].append((left, place, 1))
        rows[left].append((right, place, -1))
    return rows


def beyond_crease(sheet, place, turn, number):
    """The turn of the plate beyond the crease at a place, by the turn of the plate ahead and a number."""
    a, b = sheet.creases[place]
    vector = arrow(spread(sheet.corners[a]), spread(sheet.corners[b]))
    return turn_behind(turn, vector, size_of(vector), number)


def plate_turns(sheet, numbers, start=0):
    """The dict from the plates to their turns by a stand, the start at rest; each other one behind a neighbour."""
    rows = hinges_of(sheet)
    turns = {start: REST}
    waiting = [start]
    at = 0
    while at < len(waiting):
        number = waiting[at]
        for beyond, place, sign in rows[number]:
            if beyond not in turns:
                top, bottom = numbers[place]
                turns[beyond] = beyond_crease(sheet, place, turns[number], (sign * top, bottom))
                waiting.append(beyond)
        at += 1
    return turns


def carried(turn, start, one, other):
    """The space point of a point of a turned plate, of which another point lies at a space point, start."""
    here, there = spread(one), spread(other)
    vector, square = turned(turn, arrow(here, there))
    weight = square * here[2] * there[2]
    return tuple([plus(ahead, lowest(part, weight)) for ahead, part in zip(start, vector)])


def corner_points(sheet, turns, start=0):
    """The dict from the corners to their space points, by the turns of the plates; the start lies as in the sheet."""
    first = sheet.plates[start][0]
    x, y = sheet.corners[first]
    points = {first: (x, y, NOUGHT)}
    for number in turns:
        plate = sheet.plates[number]
        known = [corner for corner in plate if corner in points][0]
        for corner in plate:
            if corner not in points:
                points[corner] = carried(turns[number], points[known], sheet.corners[known], sheet.corners[corner])
    return points


def is_spot(sheet, thing):
    """Tell whether something is a pair of a plate's number and a point within the plate or on its sides."""
    if not is_tuple_of(thing, 2):
        return False
    number, point = thing
    if not is_integer(number) or not 0 <= number < len(sheet.plates) or not is_point(point):
        return False
    spot = spread(point)
    for line in lines_of([spread(sheet.corners[corner]) for corner in sheet.plates[number]]):
        if side_of(line, spot) < 0:
            return False
    return True


def check_spots(sheet, numbers, spots):
    """Raise NoStand or NoSpot unless these are a stand and a list of spots of a sheet."""
    check_stand(sheet, numbers)
    for spot in spots:
        if not is_spot(sheet, spot):
            raise NoSpot()


def spot_points(sheet, numbers, spots):
    """The list of the space points of some spots in the placing of a stand."""
    turns = plate_turns(sheet, numbers)
    points = corner_points(sheet, turns)
    found = []
    for number, point in spots:
        corner = sheet.plates[number][0]
        found.append(carried(turns[number], points[corner], sheet.corners[corner], point))
    return found
