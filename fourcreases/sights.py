"""Lots of creases whose numbers tell all others."""
from fourcreases.blindness import blind_rows
from fourcreases.errors import TooMany
from fourcreases.lots import check_lot, least_lots, places_of
from fourcreases.parts import parts_of, stand_of


def settles(sheet, lot):
    """Tell whether any two stands with the same numbers at the creases of a lot are equal."""
    return blind_pair(sheet, lot) is None


def blind_pair(sheet, lot):
    """A pair of unlike stands with the same numbers at the creases of a lot, None if there is none."""
    check_lot(sheet, lot)
    found = blind_rows(parts_of(sheet), places_of(sheet, lot))
    if found is None:
        return None
    one, other = found
    return (stand_of(sheet, one), stand_of(sheet, other))


def least_sights(sheet):
    """The list of all lots that settle a sheet and of which no smaller part does."""
    if len(sheet.creases) > 10:
        raise TooMany(10)
    parts = parts_of(sheet)
    return least_lots(sheet.creases, lambda lot: blind_rows(parts, places_of(sheet, lot)) is None)
