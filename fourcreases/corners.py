"""Inner corners: their angles, and the two lines of fours that close there."""
from fourcreases.errors import NoNumbers
from fourcreases.flat import arrow, cross, dot, size_of, spread
from fourcreases.kinds import is_fraction_row
from fourcreases.ratios import UNIT, lowest, opposite, times


def far_end(crease, corner):
    """The end of a crease that is not the corner."""
    a, b = crease
    return b if a == corner else a


def arrows_at(sheet, corner):
    """The vectors from an inner corner along its four creases, each times some weight."""
    creases = sheet.around(corner)
    here = spread(sheet.corners[corner])
    return [arrow(here, spread(sheet.corners[far_end(crease, corner)])) for crease in creases]


def half_tangent(one, other):
    """The tangent of half the angle between two vectors whose lengths are integers."""
    return lowest(cross(one, other), size_of(one) * size_of(other) + dot(one, other))


def tangents_between(arrows):
    """The tangents of half the angle from the first of four vectors to the second one, and to the third from there."""
    first, second, third, _ = arrows
    return (half_tangent(first, second), half_tangent(second, third))


def corner_tangents(sheet, corner):
    """The tangents of half the angle from the first crease to the second one, and to the third one from there."""
    return tangents_between(arrows_at(sheet, corner))


def told_fractions(tangents):
    """The pair (m, n) of a corner with such tangents."""
    (a, b), (c, d) = tangents
    return (lowest(b * d - a * c, b * d + a * c), lowest(c * b - a * d, c * b + a * d))


def corner_fractions(sheet, corner):
    """The pair (m, n) of an inner corner."""
    return told_fractions(corner_tangents(sheet, corner))


def first_line(m):
    """The four on the first line with 1 at the first crease."""
    return (UNIT, opposite(m), UNIT, m)


def second_line(n):
    """The four on the second line with 1 at the second crease."""
    return (opposite(n), UNIT, n, UNIT)


def lines_with(tangents):
    """Such fours on the two lines of a corner with such tangents."""
    m, n = told_fractions(tangents)
    return (first_line(m), second_line(n))


def corner_lines(sheet, corner):
    """Such fours on the two lines of an inner corner."""
    return lines_with(corner_tangents(sheet, corner))


def line_met(lines, four):
    """0 for four zeros, 1 or 2 for the line on which four numbers are, None if they are on none."""
    if [number[0] for number in four] == [0, 0, 0, 0]:
        return 0
    for at, line in enumerate(lines):
        if list(four) == [times(four[at], worth) for worth in line]:
            return at + 1
    return None


def line_of(sheet, corner, four):
    """The line of an inner corner on which four numbers are, told as `line_met` tells it."""
    lines = corner_lines(sheet, corner)
    if not is_fraction_row(four, 4):
        raise NoNumbers()
    return line_met(lines, four)
