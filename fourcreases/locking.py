"""Lots of creases that lock a sheet, or one of its creases, if they are glued."""
from fourcreases.errors import BadPrices, TooMany
from fourcreases.kinds import is_integer
from fourcreases.knots import place_of
from fourcreases.lots import all_lots, check_lot, is_crease, least_lots, places_of
from fourcreases.parts import parts_of, rows_of, stand_of


def rows_at(sheet, crease):
    """The rows of all motions that move a crease, or all of them if it is None."""
    rows = rows_of(parts_of(sheet))
    if crease is None:
        return rows
    place = place_of(sheet, crease)
    return [row for row in rows if place in row]


def slipping_row(rows, places):
    """The first row that is 0 at some places, None if there is none."""
    for row in rows:
        if not [place for place in row if place in places]:
            return row
    return None


def locks(sheet, lot, crease=None):
    """Tell whether a lot locks a crease, or the sheet."""
    return slip(sheet, lot, crease) is None


def slip(sheet, lot, crease=None):
    """A stand by which a lot does not lock a crease, or the sheet; None if it does."""
    check_lot(sheet, lot)
    row = slipping_row(rows_at(sheet, crease), places_of(sheet, lot))
    return None if row is None else stand_of(sheet, row)


def check_few(sheet):
    """Raise TooMany if a sheet has more than 10 creases."""
    if len(sheet.creases) > 10:
        raise TooMany(10)


def least_locks(sheet, crease=None):
    """The list of all lots that lock a crease, or the sheet, and of which no smaller part does."""
    rows = rows_at(sheet, crease)
    check_few(sheet)
    return least_lots(sheet.creases, lambda lot: slipping_row(rows, places_of(sheet, lot)) is None)


def check_prices(sheet, prices):
    """Raise BadPrices unless this gives just each crease an integer from 0 on."""
    if not isinstance(prices, dict) or len(prices) != len(sheet.creases):
        raise BadPrices()
    for crease in prices:
        if not is_crease(sheet, crease) or not is_integer(prices[crease]) or prices[crease] < 0:
            raise BadPrices()


def cheapest_lock(sheet, prices, crease=None):
    """The pair (price, lot) of the cheapest lot that locks a crease, or the sheet."""
    check_prices(sheet, prices)
    rows = rows_at(sheet, crease)
    check_few(sheet)
    priced = [
        (sum([prices[glued] for glued in lot]), lot) for lot in all_lots(sheet.creases)
        if slipping_row(rows, places_of(sheet, lot)) is None
    ]
    # Of several with the same price the first one has the fewest creases.
    return min(priced, key=lambda pair: pair[0])
