"""Linear spaces that any rows of fractions make.

A row is the dict of its numbers other than 0 here. As multiples of a row serve as well, all its
numbers are made integers without a common divisor.
"""
from math import gcd, lcm


def slimmed(row):
    """A dict of integers divided by what divides all of them."""
    shared = 0
    for place in row:
        shared = gcd(shared, row[place])
    if shared < 2:
        return row
    return {place: row[place] // shared for place in row}


def whole_multiple(row):
    """The multiple of a dict of fractions that has integers without a common divisor."""
    weight = 1
    for place in row:
        weight = lcm(weight, row[place][1])
    return slimmed({place: row[place][0] * (weight // row[place][1]) for place in row})


def cleared(row, place, other):
    """The sum of multiples of two rows, both not 0 at a place, that has 0 there."""
    shared = gcd(row[place], other[place])
    factor, weight = other[place] // shared, row[place] // shared
    left = {}
    for spot in {**row, **other}:
        number = row.get(spot, 0) * factor - other.get(spot, 0) * weight
        if number != 0:
            left[spot] = number
    return slimmed(left)


class Span:
    """The space of the sums of multiples of some rows of fractions."""

    def __init__(self, rows):
        # The rows are looked at when something is asked for the first time: many spaces are never asked.
        self._waiting = list(rows)
        # Each row has a place of its own, at which all others have 0: so one step a place tells what is left.
        self._owners = {}

    def _rest(self, row):
        """What is left of a row of integers when rows of the space are taken away at their own places."""
        left = row
        for place in row:
            if place in self._owners:
                left = cleared(left, place, self._owners[place])
        return left

    def _take(self, row):
        """Make a row of integers a part of the space."""
        left = self._rest(row)
        if left:
            own = min(left)
            for place in list(self._owners):
                if own in self._owners[place]:
                    self._owners[place] = cleared(self._owners[place], own, left)
            self._owners[own] = left

    def has(self, row):
        """Tell whether a dict of fractions lies in the space."""
        while self._waiting:
            numbers = self._waiting.pop()
            self._take(whole_multiple({place: one for place, one in enumerate(numbers) if one[0] != 0}))
        return not self._rest(whole_multiple(row))
