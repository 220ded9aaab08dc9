"""Slits: cuts from the rim of a sheet inwards, along its creases, and what folds behind them."""
from fourcreases.cases import case_rows
from fourcreases.choices import all_choices, motions_of, told_by
from fourcreases.corners import far_end
from fourcreases.errors import NoCrease, NoSlit
from fourcreases.kinds import is_integer, is_row
from fourcreases.knots import knots_among, place_of
from fourcreases.laying import joining
from fourcreases.motions import can_fold
from fourcreases.parts import tied_knots


def cut_creases(slit):
    """The list of the pairs of neighbours on a row of corners, the lesser one first."""
    return [joining(slit[at - 1], slit[at]) for at in range(1, len(slit))]


def check_slit(sheet, slit):
    """Raise NoSlit unless this is a row of unlike corners from the rim inwards, along creases."""
    if not is_row(slit) or len(slit) < 2:
        raise NoSlit()
    for at, corner in enumerate(slit):
        if not is_integer(corner) or corner not in (sheet.inner if at > 0 else sheet.rim):
            raise NoSlit()
    if len(set(slit)) < len(slit):
        raise NoSlit()
    for crease in cut_creases(slit):
        if crease not in sheet.creases:
            raise NoSlit()


def creases_left(sheet, slit):
    """The list of the creases of a sheet that a slit leaves."""
    cut = cut_creases(slit)
    return [crease for crease in sheet.creases if crease not in cut]


def corners_left(sheet, gone):
    """The list of the inner corners of a sheet without some that are cut."""
    return [corner for corner in sheet.inner if corner not in gone]


def slit_motions(sheet, slit):
    """The list of the motions of a slit sheet."""
    check_slit(sheet, slit)
    left = creases_left(sheet, slit)
    return motions_of(len(left), knots_among(sheet, corners_left(sheet, slit), left))


def folds_without(sheet, gone, crease):
    """Tell whether a crease folds if nothing is asked at some corners."""
    place = place_of(sheet, crease)
    for part in tied_knots(knots_among(sheet, corners_left(sheet, gone), sheet.creases)):
        if [places for places, _ in part if place in places]:
            for choice in all_choices(len(part)):
                if [row for row in case_rows(0, told_by(part, choice)) if place in row]:
                    return True
            return False
    return True


def slit_folds(sheet, slit, crease):
    """Tell whether a crease folds in a slit sheet."""
    check_slit(sheet, slit)
    sheet.beside(crease)
    if crease in cut_creases(slit):
        raise NoCrease()
    return folds_without(sheet, slit, crease)


def longer_slits(sheet, slits):
    """The ascending list of the slits that have a corner more than some, which are ascending, too."""
    found = []
    for slit in slits:
        ends = [far_end(crease, slit[-1]) for crease in sheet.around(slit[-1])]
        found.extend([(*slit, end) for end in sorted(ends) if end in sheet.inner and end not in slit])
    return found


def first_slits(sheet):
    """The ascending list of the slits with two corners."""
    ends = [(a, b) for a, b in sheet.creases] + [(b, a) for a, b in sheet.creases]
    return sorted([(a, b) for a, b in ends if a in sheet.rim and b in sheet.inner])


def least_slit(sheet, crease):
    """The least slit after which a crease folds, () if it folds at once, None if there is none."""
    if can_fold(sheet, crease):
        return ()
    slits = first_slits(sheet)
    # What folds depends only on which corners are cut, and many slits cut the same ones.
    known = {}
    while slits:
        slits = [slit for slit in slits if crease not in cut_creases(slit)]
        for slit in slits:
            gone = tuple(sorted(slit[1:]))
            if gone not in known:
                known[gone] = folds_without(sheet, gone, crease)
            if known[gone]:
                return slit
        slits = longer_slits(sheet, slits)
    return None
