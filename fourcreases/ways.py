"""Ways from one stand to another one on which held creases stay folded, and what parts such stands."""
from fourcreases.choices import motion_choices, places_agreeing
from fourcreases.holding import (
    are_together, checked_places, keeps, lost_place, moved_knots, moved_with, unlike_place,
)
from fourcreases.kinds import is_integer, is_row, is_tuple_of
from fourcreases.knots import knots_of, lines_met, place_of
from fourcreases.lots import is_crease
from fourcreases.ratios import NOUGHT, UNIT
from fourcreases.stands import are_numbers
from fourcreases.weighing import are_weights, moving_rows, signed_weights, vanishes


def way(sheet, one, other, held):
    """A way of as few stands as possible from one stand to another one, None if there is none."""
    places = checked_places(sheet, one, other, held)
    start, end = tuple(one), tuple(other)
    if start == end:
        return [start]
    if unlike_place(one, other, places) is not None:
        return None
    knots = knots_of(sheet)
    here, there = lines_met(knots, one), lines_met(knots, other)
    if are_together(here, there):
        return [start, end]
    if lost_place(moved_knots(knots, one, places), here, there) is not None:
        return None
    moving = moved_with(knots, one, places)
    return [start, tuple([number if place in moving else NOUGHT for place, number in enumerate(one)]), end]


def is_way(sheet, one, other, held, thing):
    """Tell whether something is a way from one stand to another one."""
    places = checked_places(sheet, one, other, held)
    if not is_row(thing) or len(thing) == 0:
        return False
    for numbers in thing:
        if not are_numbers(sheet, numbers) or not keeps(numbers, places):
            return False
    if tuple(thing[0]) != tuple(one) or tuple(thing[-1]) != tuple(other):
        return False
    knots = knots_of(sheet)
    met = [lines_met(knots, numbers) for numbers in thing]
    if [lines for lines in met if None in lines]:
        return False
    for at in range(1, len(thing)):
        if not are_together(met[at - 1], met[at]) or unlike_place(thing[at - 1], thing[at], places) is not None:
            return False
    return True


def parting(sheet, one, other, held):
    """What shows that there is no way from one stand to another one, None if there is one."""
    places = checked_places(sheet, one, other, held)
    unlike = unlike_place(one, other, places)
    if unlike is not None:
        return ("signs", sheet.creases[unlike])
    knots = knots_of(sheet)
    here, there = lines_met(knots, one), lines_met(knots, other)
    groups = moved_knots(knots, one, places)
    if are_together(here, there) or lost_place(groups, here, there) is None:
        return None
    # What a motion loses is 0 in all stands that it has in common with those that lose nothing.
    lost = [lost_place(groups, here, choice) for choice in motion_choices(sheet)]
    row = tuple([at for at, place in enumerate(lost) if place is None])
    beyond = [at for at, place in enumerate(lost) if place is not None]
    return ("motions", row, {(k, j): {sheet.creases[lost[j]]: UNIT} for k in row for j in beyond})


def is_sign_parting(sheet, one, other, held, crease):
    """Tell whether something is a held crease at which two stands have unlike signs."""
    if not is_crease(sheet, crease) or crease not in held:
        return False
    return unlike_place(one, other, [place_of(sheet, crease)]) is not None


def is_place_row(thing, many):
    """Tell whether something is an ascending row of unlike places among so many."""
    if not is_row(thing):
        return False
    last = -1
    for place in thing:
        if not is_integer(place) or not last < place < many:
            return False
        last = place
    return True


def parts_motions(choices, row, here, there):
    """Tell whether a row has all motions that have one stand and none that has another one, by their lines."""
    for place in places_agreeing(choices, here):
        if place not in row:
            return False
    for place in places_agreeing(choices, there):
        if place in row:
            return False
    return True


def is_parting(sheet, one, other, held, thing):
    """Tell whether something is a parting of two stands."""
    places = checked_places(sheet, one, other, held)
    if is_tuple_of(thing, 2) and thing[0] == "signs":
        return is_sign_parting(sheet, one, other, held, thing[1])
    if not is_tuple_of(thing, 3) or thing[0] != "motions":
        return False
    _, row, weights = thing
    knots = knots_of(sheet)
    choices = motion_choices(sheet)
    if not is_place_row(row, len(choices)):
        return False
    if not parts_motions(choices, row, lines_met(knots, one), lines_met(knots, other)):
        return False
    if not are_weights(sheet, held, weights, row, len(choices)):
        return False
    rows = {place: moving_rows(knots, choices[place], places) for place in row}
    for k, j in weights:
        if not vanishes(rows[k], choices[j], signed_weights(sheet, weights[(k, j)], one)):
            return False
    return True
