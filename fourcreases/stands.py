"""Numbers of a sheet, and which of them are stands."""
from fourcreases.errors import NoNumbers, NoStand
from fourcreases.kinds import is_fraction_row
from fourcreases.knots import knots_of, lines_met


def are_numbers(sheet, thing):
    """Tell whether something is a row of fractions, one for each crease of a sheet."""
    return is_fraction_row(thing, len(sheet.creases))


def is_stand(sheet, thing):
    """Tell whether something is numbers of a sheet that close at each inner corner."""
    return are_numbers(sheet, thing) and None not in lines_met(knots_of(sheet), thing)


def check_stand(sheet, numbers):
    """Raise NoStand unless these are a stand of a sheet."""
    if not is_stand(sheet, numbers):
        raise NoStand()


def open_corner(sheet, numbers):
    """The first inner corner at which numbers do not close, None for a stand."""
    if not are_numbers(sheet, numbers):
        raise NoNumbers()
    met = lines_met(knots_of(sheet), numbers)
    if None not in met:
        return None
    return sheet.inner[met.index(None)]
