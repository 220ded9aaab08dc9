"""Seams: rows of corners on the rim of a sheet at which copies of it are glued together."""
from fourcreases.errors import BadSeam
from fourcreases.kinds import is_integer, is_row
from fourcreases.ratios import minus, plus


def are_rim_corners(sheet, thing):
    """Tell whether something is a row of 3 to 5 unlike corners of the rim of a sheet."""
    if not is_row(thing) or not 3 <= len(thing) <= 5:
        return False
    for corner in thing:
        if not is_integer(corner) or corner not in sheet.rim:
            return False
    return len(set(thing)) == len(thing)


def follow_round(ring, row):
    """Tell whether corners of a ring follow one another on it, also from its last one to the first."""
    for at in range(1, len(row)):
        if ring[ring.index(row[at - 1]) + 1 - len(ring)] != row[at]:
            return False
    return True


def vector_between(one, other):
    """The vector from one point to another one."""
    return (minus(other[0], one[0]), minus(other[1], one[1]))


def moved(point, vector):
    """A point moved by a vector."""
    return (plus(point[0], vector[0]), plus(point[1], vector[1]))


def check_seams(sheet, left, right):
    """Raise BadSeam unless these are the two seams of a patch, as far as they tell it by themselves."""
    if not are_rim_corners(sheet, left) or not follow_round(sheet.rim, left[::-1]):
        raise BadSeam("left")
    if not are_rim_corners(sheet, right) or not follow_round(sheet.rim, right):
        raise BadSeam("right")
    if len(left) != len(right) or [corner for corner in left if corner in right]:
        raise BadSeam("both")
    vectors = [vector_between(sheet.corners[one], sheet.corners[other]) for one, other in zip(left, right)]
    if vectors != [vectors[0]] * len(vectors):
        raise BadSeam("vector")


def band_parts(sheet, left, right, copies):
    """The lists of the corners and of the plates of a band of so many copies."""
    vector = vector_between(sheet.corners[left[0]], sheet.corners[right[0]])
    corners, plates = list(sheet.corners), list(sheet.plates)
    # The points and the numbers that the corners of the copy at hand have in the band.
    points, names = list(sheet.corners), list(range(len(sheet.corners)))
    for _ in range(1, copies):
        glued = {corner: names[other] for corner, other in zip(left, right)}
        points = [moved(point, vector) for point in points]
        names = []
        for corner, point in enumerate(points):
            if corner in glued:
                names.append(glued[corner])
            else:
                names.append(len(corners))
                corners.append(point)
        plates.extend([tuple([names[old] for old in plate]) for plate in sheet.plates])
    return corners, plates
