"""One copy of a patch within its band: which picks of lines its plates let through.

What is asked of a choice of the whole band is asked copy by copy: each plate has its corners in
one copy and in the seams beside it. So only what is picked at the seams goes from copy to copy.
"""
from fourcreases.corners import lines_with, tangents_between
from fourcreases.flat import arrow, spread
from fourcreases.laying import neighbours_round
from fourcreases.ratios import NOUGHT, UNIT, divided, times
from fourcreases.seams import band_parts


def worths_round(spots, plates, corner):
    """For both lines of an inner corner the dict from the other ends of its creases to what the line has there."""
    around = neighbours_round(plates, corner)
    lines = lines_with(tangents_between([arrow(spots[corner], spots[other]) for other in around]))
    return [dict(zip(around, line)) for line in lines]


def free_picks(worths):
    """The picks of a corner whose told fraction is not 0."""
    return [pick for pick in (1, 2) if NOUGHT not in list(worths[pick - 1].values())]


def quotients_at(worths, plate, at):
    """The dict from the free picks of a corner to the quotients there, on the way round a plate."""
    onward, back = plate[at + 1 - len(plate)], plate[at - 1]
    return {pick: divided(worths[pick - 1][onward], worths[pick - 1][back]) for pick in free_picks(worths)}


def rows_of_picks(free, corners):
    """The list of the rows of free picks for some corners."""
    rows = [()]
    for corner in corners:
        rows = [(*row, pick) for row in rows for pick in free[corner]]
    return rows


class Copy:
    """A copy of a patch: its corners, those of its seams that can be inner ones, and the quotients round its plates."""

    def __init__(self, patch):
        sheet = patch.sheet
        self.plates = sheet.plates
        self.inner = sheet.inner
        self.left = patch.left[1:-1]
        self.right = patch.right[1:-1]
        corners, plates = band_parts(sheet, patch.left, patch.right, 2)
        spots = [spread(point) for point in corners]
        worths = {corner: worths_round(spots, plates, corner) for corner in self.inner + self.right}
        self.free = {corner: free_picks(worths[corner]) for corner in worths}
        # The plates of the second copy have the left seam as an inner one, those of the first one all else.
        self.quotients = {}
        for number, plate in enumerate(plates):
            own = number - len(sheet.plates)
            for at, corner in enumerate(plate):
                if own < 0 and corner in worths:
                    self.quotients[(number, corner)] = quotients_at(worths[corner], plate, at)
                elif own >= 0 and corner in self.right:
                    self.quotients[(own, sheet.plates[own][at])] = quotients_at(worths[corner], plate, at)

    def seam_picks(self):
        """The list of the rows of free picks at a seam."""
        return rows_of_picks(self.free, self.right)

    def lets_through(self, picks):
        """Tell whether the quotients multiply to 1 round each plate all of whose corners have a pick."""
        for number, plate in enumerate(self.plates):
            if not [corner for corner in plate if corner not in picks]:
                product = UNIT
                for corner in plate:
                    product = times(product, self.quotients[(number, corner)][picks[corner]])
                if product != UNIT:
                    return False
        return True

    def many_within(self, seams):
        """The number of the rows of picks within the copy that fit those at its seams, a dict."""
        many = 0
        for row in rows_of_picks(self.free, self.inner):
            own = dict(zip(self.inner, row))
            if self.lets_through({**seams, **own}):
                many += 1
        return many
