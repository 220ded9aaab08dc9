"""Weights on held creases that show of two motions that no stand in both keeps what is held."""
from fourcreases.cases import ends_told, group_row, moving_groups
from fourcreases.choices import told_by
from fourcreases.kinds import is_fraction, is_integer, is_tuple_of
from fourcreases.knots import place_of
from fourcreases.lots import is_crease
from fourcreases.ratios import NOUGHT, UNIT, opposite, plus, times


def is_weighing(sheet, held, thing):
    """Tell whether something is a dict from held creases to fractions from 0 on, not all of them 0."""
    if not isinstance(thing, dict):
        return False
    some = False
    for crease in thing:
        if not is_crease(sheet, crease) or crease not in held:
            return False
        if not is_fraction(thing[crease]) or thing[crease][0] < 0:
            return False
        some = some or thing[crease][0] > 0
    return some


def are_weights(sheet, held, thing, row, many):
    """Tell whether something gives weights to each pair of a place in a row and one of so many not in it, alone."""
    if not isinstance(thing, dict) or len(thing) != len(row) * (many - len(row)):
        return False
    inside = {place: True for place in row}
    for pair in thing:
        if not is_tuple_of(pair, 2) or not is_integer(pair[0]) or not is_integer(pair[1]):
            return False
        if pair[0] not in inside or pair[1] in inside or not 0 <= pair[1] < many:
            return False
        if not is_weighing(sheet, held, thing[pair]):
            return False
    return True


def moving_rows(knots, choice, places):
    """The rows of the space of a choice that have some of the places, each behind its picks at the knots that it moves.

    A stand of this space that lies in the one of another choice, too, is a sum of multiples of those
    rows whose picks the other choice has: for no four but zeros is on both lines of a corner.
    """
    told = told_by(knots, choice)
    ends = ends_told(told)
    rows = [
        ({knot: choice[knot] for knot in scales}, group_row(told, scales)) for scales in moving_groups(told, ends)
    ]
    rows.extend([({}, {place: UNIT}) for place in places if place not in ends])
    return rows


def signed_weights(sheet, weights, numbers):
    """The dict from the places of creases to their weights, times the signs of the numbers there."""
    signed = {}
    for crease in weights:
        place = place_of(sheet, crease)
        signed[place] = weights[crease] if numbers[place][0] > 0 else opposite(weights[crease])
    return signed


def has_picks(choice, picks):
    """Tell whether a choice has what a dict of picks tells."""
    for knot in picks:
        if choice[knot] != picks[knot]:
            return False
    return True


def vanishes(rows, choice, weights):
    """Tell whether the sum of weights times numbers is 0 for all rows that a choice has, too."""
    for picks, row in rows:
        if has_picks(choice, picks):
            total = NOUGHT
            for place in weights:
                total = plus(total, times(weights[place], row.get(place, NOUGHT)))
            if total[0] != 0:
                return False
    return True
