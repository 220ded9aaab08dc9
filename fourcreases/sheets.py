"""Sheets: plates that lie side by side and hang by their common sides."""
from fourcreases.errors import BadCorners, BadPlates, NoCorner, NoCrease
from fourcreases.flat import spread
from fourcreases.kinds import is_integer, is_point, is_row, is_tuple_of
from fourcreases.laying import (
    check_laying, creases_of, inner_corners, joining, neighbours_round, rim_ring, rim_sides, side_owners,
)
from fourcreases.plane import is_plate


def check_corners(corners):
    """Raise BadCorners unless these are 3 to 60 unlike points."""
    if not is_row(corners) or not 3 <= len(corners) <= 60:
        raise BadCorners(-1)
    seen = {}
    for at, point in enumerate(corners):
        if not is_point(point) or point in seen:
            raise BadCorners(at)
        seen[point] = True


def is_plate_of(corners, thing):
    """Tell whether something is a row of numbers of corners whose points are a plate of points."""
    if not is_row(thing):
        return False
    for number in thing:
        if not is_integer(number) or not 0 <= number < len(corners):
            return False
    return is_plate([corners[number] for number in thing])


def check_plates(corners, plates):
    """Raise BadPlates unless these are 1 to 40 plates."""
    if not is_row(plates) or not 1 <= len(plates) <= 40:
        raise BadPlates(-1)
    for at, plate in enumerate(plates):
        if not is_plate_of(corners, plate):
            raise BadPlates(at)


class Sheet:
    """A disc of stiff plates that lies flat."""

    def __init__(self, corners, plates):
        check_corners(corners)
        check_plates(corners, plates)
        self.corners = tuple(corners)
        self.plates = tuple([tuple(plate) for plate in plates])
        check_laying([spread(point) for point in self.corners], self.plates)
        owners = side_owners(self.plates)
        self.creases = tuple(creases_of(owners))
        self.rim = tuple(rim_ring(dict(rim_sides(owners))))
        self.inner = tuple(inner_corners(len(self.corners), owners))
        self.inside = tuple([
            number for number, plate in enumerate(self.plates)
            if len([corner for corner in plate if corner in self.inner]) == len(plate)
        ])
        self._beside = {(a, b): (owners[(a, b)], owners[(b, a)]) for a, b in self.creases}
        self._around = {
            corner: tuple([joining(corner, other) for other in neighbours_round(self.plates, corner)])
            for corner in self.inner
        }

    def around(self, corner):
        """The four creases at an inner corner, going round counterclockwise, the least one first."""
        if not is_integer(corner) or corner not in self._around:
            raise NoCorner()
        return self._around[corner]

    def beside(self, crease):
        """The numbers of the plates on the left and on the right of a crease."""
        if not is_tuple_of(crease, 2):
            raise NoCrease()
        a, b = crease
        if not is_integer(a) or not is_integer(b) or (a, b) not in self._beside:
            raise NoCrease()
        return self._beside[(a, b)]

    def __eq__(self, other):
        return isinstance(other, Sheet) and self.corners == other.corners and self.plates == other.plates
