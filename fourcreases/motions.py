"""Motions: the greatest linear spaces of stands of a sheet, and what they tell of its creases."""
from fourcreases.cases import whole_row
from fourcreases.choices import (
    agrees, all_choices, choice_rows, is_choice, motion_choices, motions_of, places_agreeing, whole_rows,
)
from fourcreases.corners import corner_fractions, corner_lines
from fourcreases.errors import BadChoice, NoStand
from fourcreases.kinds import is_row
from fourcreases.knots import knots_of, lines_met, place_of
from fourcreases.laying import joining
from fourcreases.ratios import UNIT, divided, times
from fourcreases.stands import are_numbers, check_stand


def space_of(sheet, choice):
    """The reduced rows of the stands that are on the chosen lines."""
    if not is_choice(sheet, choice):
        raise BadChoice()
    return whole_rows(len(sheet.creases), choice_rows(sheet, knots_of(sheet), choice))


def round_product(plate, worths):
    """The product of the quotients round a plate, by the dict from its corners to what their creases have."""
    product = UNIT
    for at, corner in enumerate(plate):
        onward = worths[corner][joining(corner, plate[at + 1 - len(plate)])]
        back = worths[corner][joining(corner, plate[at - 1])]
        product = times(product, divided(onward, back))
    return product


def bar_of(sheet, choice):
    """None if all creases can fold by a choice, otherwise the first corner or plate that bars it."""
    if not is_choice(sheet, choice):
        raise BadChoice()
    worths = {}
    for corner, pick in zip(sheet.inner, choice):
        if corner_fractions(sheet, corner)[pick - 1][0] == 0:
            return ("corner", corner)
        worths[corner] = dict(zip(sheet.around(corner), corner_lines(sheet, corner)[pick - 1]))
    for number in sheet.inside:
        if round_product(sheet.plates[number], worths) != UNIT:
            return ("plate", number)
    return None


def motions(sheet):
    """The list of all motions, in the order of the least choices that make them."""
    return motions_of(len(sheet.creases), knots_of(sheet))


def hands(sheet):
    """The list of the numbers of rows of the motions."""
    return [len(rows) for rows in motions(sheet)]


def motions_with(sheet, numbers):
    """The ascending list of the places of the motions in which a stand lies."""
    check_stand(sheet, numbers)
    return places_agreeing(motion_choices(sheet), lines_met(knots_of(sheet), numbers))


def folded(sheet, crease):
    """A stand with the number 1 at a crease, None if it never folds."""
    place = place_of(sheet, crease)
    knots = knots_of(sheet)
    for choice in all_choices(len(knots)):
        for row in choice_rows(sheet, knots, choice):
            if place in row:
                return whole_row(len(sheet.creases), {spot: divided(row[spot], row[place]) for spot in row})
    return None


def can_fold(sheet, crease):
    """Tell whether a crease folds."""
    return folded(sheet, crease) is not None


def still_creases(sheet):
    """The ascending list of the creases that never fold."""
    knots = knots_of(sheet)
    moving = {}
    for choice in all_choices(len(knots)):
        for row in choice_rows(sheet, knots, choice):
            for place in row:
                moving[place] = True
    return [crease for place, crease in enumerate(sheet.creases) if place not in moving]


def one_motion(sheet, stands):
    """The place of the first motion that has all of some stands, None if none has."""
    if not is_row(stands):
        raise NoStand()
    knots = knots_of(sheet)
    rows = []
    for numbers in stands:
        if not are_numbers(sheet, numbers):
            raise NoStand()
        met = lines_met(knots, numbers)
        if None in met:
            raise NoStand()
        if met not in rows:
            rows.append(met)
    for place, choice in enumerate(motion_choices(sheet)):
        if all([agrees(met, choice) for met in rows]):
            return place
    return None
