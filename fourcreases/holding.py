"""Stands that keep what is held, and how they hang together.

A stand has, for each held crease, the corners that its number moves: they are tied to it by numbers
that are not 0. As long as the held numbers do not come to 0, no step can change the lines of these
corners, and all else may be made 0. So one step to what is held alone and one step from there lead
to each stand with the same lines there, and no steps at all to any other one.
"""
from fourcreases.errors import BadHeld, NotHeld
from fourcreases.kinds import is_fraction
from fourcreases.knots import place_of
from fourcreases.lots import is_crease
from fourcreases.stands import check_stand


def held_places(sheet, held):
    """The dict from the places of held creases to what is told of them; BadHeld unless at most 6 are told rightly."""
    if not isinstance(held, dict) or len(held) > 6:
        raise BadHeld()
    places = {}
    for crease in held:
        if not is_crease(sheet, crease) or not is_fraction(held[crease]) or held[crease][0] <= 0:
            raise BadHeld()
        places[place_of(sheet, crease)] = held[crease]
    # Equal dicts may have their keys in unlike orders; what comes of them must not.
    return {place: places[place] for place in sorted(places)}


def keeps(numbers, places):
    """Tell whether numbers are, at each held place, at least the told fraction or at most its opposite."""
    for place in places:
        top, bottom = numbers[place]
        over, under = places[place]
        if abs(top) * under < over * bottom:
            return False
    return True


def checked_places(sheet, one, other, held):
    """The held places; an error unless both are stands and keep what is held."""
    check_stand(sheet, one)
    check_stand(sheet, other)
    places = held_places(sheet, held)
    for at, numbers in enumerate((one, other)):
        if not keeps(numbers, places):
            raise NotHeld(at)
    return places


def unlike_place(one, other, places):
    """The first of some places at which one of two rows of numbers is above 0 and the other one below, or None."""
    for place in places:
        if (one[place][0] > 0) != (other[place][0] > 0):
            return place
    return None


def are_together(met, other):
    """Tell whether two stands lie in one motion, by the lines on which they are at each inner corner."""
    for here, there in zip(met, other):
        if here != there and here != 0 and there != 0:
            return False
    return True


def moved_with(knots, numbers, places):
    """The dict whose keys are some places and all that are tied to them by numbers that are not 0."""
    moving = {place: True for place in places}
    waiting = list(places)
    while waiting:
        place = waiting.pop()
        for own, _ in knots:
            if place in own:
                for beyond in own:
                    if numbers[beyond][0] != 0 and beyond not in moving:
                        moving[beyond] = True
                        waiting.append(beyond)
    return moving


def moved_knots(knots, numbers, places):
    """The dict from held places to the lists of the knots that the numbers there move."""
    groups = {}
    for place in places:
        moving = moved_with(knots, numbers, [place])
        groups[place] = [knot for knot, (own, _) in enumerate(knots) if [spot for spot in own if spot in moving]]
    return groups


def lost_place(groups, met, picks):
    """The first held place that moves a knot which is on another line by the picks than as met, None if none does."""
    for place in groups:
        for knot in groups[place]:
            if met[knot] != picks[knot]:
                return place
    return None
