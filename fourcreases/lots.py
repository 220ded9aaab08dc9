"""Lots: rows of unlike creases."""
from fourcreases.errors import BadLot, NoCrease
from fourcreases.kinds import is_row


def is_crease(sheet, thing):
    """Tell whether something is a crease of a sheet."""
    try:
        sheet.beside(thing)
    except NoCrease:
        return False
    return True


def check_lot(sheet, lot):
    """Raise BadLot unless this is a row of unlike creases of a sheet."""
    if not is_row(lot):
        raise BadLot()
    seen = {}
    for crease in lot:
        if not is_crease(sheet, crease) or crease in seen:
            raise BadLot()
        seen[crease] = True
