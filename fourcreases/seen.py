"""What follows from numbers that were seen at some creases."""
from fourcreases.errors import BadTold, NoFit
from fourcreases.fits import fit_of, fitted_parts
from fourcreases.kinds import is_fraction, is_tuple_of
from fourcreases.knots import place_of
from fourcreases.lots import is_crease
from fourcreases.parts import stand_of
from fourcreases.ratios import NOUGHT
from fourcreases.trees import DEEPEST, corners_near, ends_hold, knots_by_corner, rows_of_way, split_tree


def told_places(sheet, told):
    """The dict from the places of creases to what is told of them; BadTold unless it is told of creases."""
    if not isinstance(told, dict):
        raise BadTold()
    places = {}
    for crease in told:
        if not is_crease(sheet, crease) or not is_fraction(told[crease]):
            raise BadTold()
        places[place_of(sheet, crease)] = told[crease]
    # Equal dicts may have their keys in unlike orders; what comes of them must not.
    return {place: places[place] for place in sorted(places)}


def fitting(sheet, told):
    """A stand that has the told numbers, None if none has."""
    numbers = {}
    for _, fits in fitted_parts(sheet, told_places(sheet, told)):
        if not fits:
            return None
        numbers.update(fits[0][0])
    return stand_of(sheet, numbers)


def fitting_at(sheet, told, crease):
    """The place of a crease, and stands that fit, as dicts: if any two have unlike numbers there, two of them have."""
    numbers = told_places(sheet, told)
    place = place_of(sheet, crease)
    others = {}
    own = []
    for part, fits in fitted_parts(sheet, numbers):
        if not fits:
            raise NoFit()
        if place in part.places:
            for base, free in fits:
                own.append(base)
                own.extend([{**base, **row} for row in free if place in row])
        else:
            others.update(fits[0][0])
    return place, [{**others, **base} for base in own]


def sure_number(sheet, told, crease):
    """The number that all stands that fit have at a crease, None if they have unlike ones."""
    place, stands = fitting_at(sheet, told, crease)
    number = stands[0].get(place, NOUGHT)
    for stand in stands:
        if stand.get(place, NOUGHT) != number:
            return None
    return number


def two_fitting(sheet, told, crease):
    """A pair of stands that fit and have unlike numbers at a crease, None if there are no two such."""
    place, stands = fitting_at(sheet, told, crease)
    number = stands[0].get(place, NOUGHT)
    for stand in stands:
        if stand.get(place, NOUGHT) != number:
            return (stand_of(sheet, stands[0]), stand_of(sheet, stand))
    return None


def unfit_tree(sheet, told):
    """A tree by which no stand has the told numbers, None if some stand has."""
    numbers = told_places(sheet, told)
    knots = knots_by_corner(sheet)
    for part, fits in fitted_parts(sheet, numbers):
        if not fits:
            seen = [sheet.creases[place] for place in part.places if place in numbers]
            # Where all corners of this part are told, nothing fits; so it need not be split further.
            return split_tree(
                corners_near(sheet, seen), {}, lambda way: fit_of(rows_of_way(sheet, knots, way), numbers) is None
            )
    return None


def is_unfit_tree(sheet, told, thing):
    """Tell whether something is a tree by which no stand has the told numbers."""
    numbers = told_places(sheet, told)
    knots = knots_by_corner(sheet)

    def holds(end, way):
        if not is_tuple_of(end, 1) or end[0] != "leaf":
            return False
        return fit_of(rows_of_way(sheet, knots, way), numbers) is None

    return ends_hold(knots, thing, {}, DEEPEST, holds)
