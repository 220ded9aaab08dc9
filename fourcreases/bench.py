"""The bench, on which plates are laid one by one."""
from fourcreases.errors import LiesOver, NoCrease, NoPlate, NoUndo
from fourcreases.kinds import is_integer, is_point
from fourcreases.laying import joining
from fourcreases.motions import can_fold, hands
from fourcreases.plane import is_plate, lie_over
from fourcreases.sheets import Sheet


def sheet_of_plates(plates):
    """The sheet of some plates of points; its corners are their points as they come, plate by plate."""
    numbers = {}
    for plate in plates:
        for point in plate:
            numbers.setdefault(point, len(numbers))
    return Sheet(list(numbers), [[numbers[spot] for spot in shape] for shape in plates])


class Bench:
    """Plates that lie side by side, and what was done to lay them."""

    def __init__(self):
        self._plates = {}
        # What was done and not taken back: the number of a plate, its points, and whether it was put.
        self._done = []
        self._coming = 0

    def _check(self, points):
        """Raise an error unless these are a plate of points that can be laid."""
        if not is_plate(points):
            raise NoPlate()
        for number in sorted(self._plates):
            if lie_over(points, self._plates[number]):
                raise LiesOver(number)

    def _row(self):
        """The list of the plates that lie there, in the order of their numbers."""
        return [self._plates[number] for number in sorted(self._plates)]

    def put(self, points):
        """Lay a plate of points and return its number."""
        self._check(points)
        number = self._coming
        self._plates[number] = tuple(points)
        self._done.append((number, tuple(points), True))
        self._coming = number + 1
        return number

    def take(self, number):
        """Take a plate away."""
        if not is_integer(number) or number not in self._plates:
            raise NoPlate()
        self._done.append((number, self._plates[number], False))
        del self._plates[number]

    def laid(self):
        """The dict from the numbers of the plates that lie there to their points."""
        return {number: self._plates[number] for number in sorted(self._plates)}

    def undo(self):
        """Take back the last put or take that was not taken back."""
        if not self._done:
            raise NoUndo()
        number, points, was_put = self._done.pop()
        if was_put:
            del self._plates[number]
            self._coming = number
        else:
            self._plates[number] = points

    def made(self):
        """The sheet of the plates that lie there."""
        return sheet_of_plates(self._row())

    def folds(self, one, other):
        """Tell whether the crease between two points folds in the sheet of the plates."""
        sheet = self.made()
        for point in (one, other):
            if not is_point(point) or point not in sheet.corners:
                raise NoCrease()
        return can_fold(sheet, joining(sheet.corners.index(one), sheet.corners.index(other)))

    def moves(self, points):
        """The list of the hands of the sheet with one plate more."""
        self._check(points)
        return hands(sheet_of_plates(self._row() + [points]))

    def trying(self, deed):
        """What a deed returns that is called with this bench, which behind it is what it was."""
        plates, done, coming = dict(self._plates), list(self._done), self._coming
        try:
            return deed(self)
        finally:
            self._plates, self._done, self._coming = plates, done, coming
