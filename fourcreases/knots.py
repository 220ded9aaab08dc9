"""The inner corners of a sheet as knots that tie numbers together.

A knot is a pair (places, lines): the places of the four creases of an inner corner among all
creases, and the two lines of the corner. The knots of a sheet stand in the order of its inner corners.
"""
from fourcreases.corners import corner_lines, line_met


def place_of(sheet, crease):
    """The place of a crease among all creases of a sheet, NoCrease if it is none."""
    sheet.beside(crease)
    return sheet.creases.index(crease)


def knots_among(sheet, corners, creases):
    """The list of the knots of some inner corners, their places told among some creases."""
    places = {crease: place for place, crease in enumerate(creases)}
    return [([places[crease] for crease in sheet.around(corner)], corner_lines(sheet, corner)) for corner in corners]


def knots_of(sheet):
    """The list of the knots of a sheet."""
    return knots_among(sheet, sheet.inner, sheet.creases)


def lines_met(knots, numbers):
    """For each knot the line on which its four numbers are, as `line_met` tells it."""
    return [line_met(lines, [numbers[place] for place in places]) for places, lines in knots]
