"""Lots: rows of unlike creases."""
from itertools import combinations

from fourcreases.errors import BadLot, NoCrease
from fourcreases.kinds import is_row


def is_crease(sheet, thing):
    """Tell whether something is a crease of a sheet."""
    try:
        sheet.beside(thing)
    except NoCrease:
        return False
    return True


def check_lot(sheet, lot):
    """Raise BadLot unless this is a row of unlike creases of a sheet."""
    if not is_row(lot):
        raise BadLot()
    seen = {}
    for crease in lot:
        if not is_crease(sheet, crease) or crease in seen:
            raise BadLot()
        seen[crease] = True


def places_of(sheet, lot):
    """The dict whose keys are the places of the creases of a lot."""
    return {sheet.creases.index(crease): True for crease in lot}


def all_lots(creases):
    """The list of all lots of some creases, those with fewer ones first, then ascending."""
    row = list(creases)
    return [lot for many in range(len(row) + 1) for lot in combinations(row, many)]


def has_all(lot, creases):
    """Tell whether some creases are all in a lot."""
    for crease in creases:
        if crease not in lot:
            return False
    return True


def least_lots(creases, holds):
    """The list of the lots for which something holds and for no smaller part of which it does.

    What holds for a lot must hold for each greater one.
    """
    found = []
    for lot in all_lots(creases):
        if not [least for least in found if has_all(lot, least)] and holds(lot):
            found.append(lot)
    return found
