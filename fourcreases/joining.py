"""Sheets that are put together, and parts that are cut out of a sheet."""
from fourcreases.errors import NoNumbers, NoPart
from fourcreases.laying import joining
from fourcreases.sheets import Sheet
from fourcreases.stands import are_numbers


def numbers_of(corners):
    """The dict from points to their numbers."""
    return {point: number for number, point in enumerate(corners)}


def renamed(sheet, numbers):
    """The plates of a sheet, their corners told by the numbers of a dict of points."""
    return [tuple([numbers[sheet.corners[corner]] for corner in plate]) for plate in sheet.plates]


def joined(one, other):
    """The sheet with the corners and plates of two sheets."""
    fresh = numbers_of(one.corners)
    corners = list(one.corners)
    for point in other.corners:
        if point not in fresh:
            fresh[point] = len(corners)
            corners.append(point)
    return Sheet(corners, list(one.plates) + renamed(other, fresh))


def begun_least(plate):
    """A plate begun at its least corner."""
    at = plate.index(min(plate))
    return plate[at:] + plate[:at]


def check_part(whole, part):
    """Raise NoPart unless each plate of a sheet has just the points of some plate of the whole one."""
    numbers = numbers_of(whole.corners)
    for point in part.corners:
        if point not in numbers:
            raise NoPart()
    own = {begun_least(plate): True for plate in whole.plates}
    for plate in renamed(part, numbers):
        if begun_least(plate) not in own:
            raise NoPart()


def cut_numbers(whole, part, numbers):
    """The numbers of a part of a sheet, out of numbers of the whole one."""
    check_part(whole, part)
    if not are_numbers(whole, numbers):
        raise NoNumbers()
    worths = dict(zip(whole.creases, numbers))
    names = numbers_of(whole.corners)
    return tuple([
        worths[joining(names[part.corners[a]], names[part.corners[b]])] for a, b in part.creases
    ])
