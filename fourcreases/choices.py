"""Choices of a line at each inner corner, and the spaces of stands that they make."""
from fourcreases.cases import case_rows, ends_told, moving_groups, whole_row
from fourcreases.kinds import is_pick_row
from fourcreases.knots import knots_of


def is_choice(sheet, thing):
    """Tell whether something is a choice of a sheet."""
    return is_pick_row(thing, len(sheet.inner))


def all_choices(many):
    """The ascending list of the choices for so many inner corners."""
    choices = [()]
    for _ in range(many):
        choices = [(*choice, pick) for choice in choices for pick in (1, 2)]
    return choices


def told_by(knots, choice):
    """What a choice tells of all inner corners, in the form of `case_rows`."""
    return [(places, lines[pick - 1]) for (places, lines), pick in zip(knots, choice)]


def choice_rows(sheet, knots, choice):
    """The reduced rows of the space of a choice, as dicts."""
    return case_rows(len(sheet.creases), told_by(knots, choice))


def whole_rows(many, rows):
    """The tuple of reduced rows that are dicts, each one as a tuple of so many numbers."""
    return tuple([whole_row(many, row) for row in rows])


def moving_part(knots, choice):
    """The choice, with 0 at each inner corner that never moves in its space.

    One space lies within another one exactly if its part agrees with the other's choice wherever
    it is not 0: for at a corner no four but zeros is on both lines.
    """
    told = told_by(knots, choice)
    part = [0] * len(choice)
    for group in moving_groups(told, ends_told(told)):
        for knot in group:
            part[knot] = choice[knot]
    return tuple(part)


def agrees(part, choice):
    """Tell whether a row has, wherever it is not 0, what another one has there."""
    for pick, other in zip(part, choice):
        if pick not in (0, other):
            return False
    return True


def is_greatest(part, parts):
    """Tell whether the space of a part lies within no other one of some parts."""
    if 0 not in part:
        return True
    for other in parts:
        if other != part and agrees(part, other):
            return False
    return True


def greatest_choices(knots):
    """The list of the least choices for some knots that make the spaces within no other ones."""
    least = {}
    for choice in all_choices(len(knots)):
        least.setdefault(moving_part(knots, choice), choice)
    return [least[part] for part in least if is_greatest(part, least)]


def motions_of(many, knots):
    """The list of the motions of so many creases that some knots tie together."""
    return [whole_rows(many, case_rows(many, told_by(knots, choice))) for choice in greatest_choices(knots)]


def motion_choices(sheet):
    """The list of the least choices that make the motions of a sheet."""
    return greatest_choices(knots_of(sheet))


def places_agreeing(choices, part):
    """The ascending list of the places of the choices with which a part, or the lines of a stand, agree."""
    return [place for place, choice in enumerate(choices) if agrees(part, choice)]
