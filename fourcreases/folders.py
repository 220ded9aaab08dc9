"""Folders: functions that return a stand for each fraction, and where they go wrong or leap."""
from fourcreases.choices import agrees, motion_choices
from fourcreases.errors import BadTries, NoStand
from fourcreases.kinds import are_fractions, is_row
from fourcreases.knots import knots_of, lines_met
from fourcreases.stands import is_stand


def check_tries(tries):
    """Raise BadTries unless this is a row of 1 to 50 fractions."""
    if not is_row(tries) or not 1 <= len(tries) <= 50 or not are_fractions(tries):
        raise BadTries()


def first_wrong(sheet, folder, tries):
    """The place of the first fraction for which a folder returns no stand, None if there is none."""
    check_tries(tries)
    for at, one in enumerate(list(tries)):
        if not is_stand(sheet, folder(one)):
            return at
    return None


def first_leap(sheet, folder, tries):
    """The place of the first fraction for which a folder leaves all motions that have the stands ahead, or None."""
    check_tries(tries)
    knots = knots_of(sheet)
    left = motion_choices(sheet)
    for at, one in enumerate(list(tries)):
        numbers = folder(one)
        if not is_stand(sheet, numbers):
            raise NoStand()
        met = lines_met(knots, numbers)
        left = [choice for choice in left if agrees(met, choice)]
        if not left:
            return at
    return None
