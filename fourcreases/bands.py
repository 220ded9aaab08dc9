"""Bands: any number of like patches in a row, each one glued to the next one."""
from fourcreases.copies import Copy
from fourcreases.errors import BadNumber, BadSeam, FoldError, TooMany
from fourcreases.kinds import is_integer
from fourcreases.seams import band_parts, check_seams
from fourcreases.sheets import Sheet


def laid_band(patch, copies):
    """The sheet of a band of so many copies."""
    corners, plates = band_parts(patch.sheet, patch.left, patch.right, copies)
    return Sheet(corners, plates)


class Patch:
    """A sheet with a left seam and a right one, at which copies of it are glued together."""

    def __init__(self, sheet, left, right):
        check_seams(sheet, left, right)
        self.sheet = sheet
        self.left = tuple(left)
        self.right = tuple(right)
        try:
            laid_band(self, 2)
        except TooMany:
            pass
        except FoldError:
            raise BadSeam("glued") from None
        if len(sheet.inner) + 2 * (len(self.right) - 2) > 9:
            raise TooMany(9)


def band_sheet(patch, copies):
    """The sheet of a band of 1 to 9 copies."""
    if not is_integer(copies) or not 1 <= copies <= 9:
        raise BadNumber("copies")
    return laid_band(patch, copies)


class Chain:
    """How many choices the copies of a band let through, by what is picked at the seams.

    The first copy has a seam on its right alone, the last one on its left alone, all others have both.
    """

    def __init__(self, patch):
        own = Copy(patch)
        seams = own.seam_picks()
        lefts = [dict(zip(own.left, row)) for row in seams]
        rights = [dict(zip(own.right, row)) for row in seams]
        self.alone = own.many_within({})
        self.first = [own.many_within(right) for right in rights]
        self.middle = [[own.many_within({**left, **right}) for right in rights] for left in lefts]
        self.last = [own.many_within(left) for left in lefts]


def inner_product(one, other):
    """The sum of the products of the items of two rows."""
    return sum([here * there for here, there in zip(one, other)])


def behind(row, matrix):
    """A row times a matrix."""
    return [inner_product(row, column) for column in zip(*matrix)]


def rest_of(row, modulus):
    """A row of integers modulo an integer."""
    return [number % modulus for number in row]


def counts_upto(chain, most):
    """The list of the numbers of choices for 1 copy up to so many."""
    counts = [chain.alone]
    row = chain.first
    for _ in range(1, most):
        counts.append(inner_product(row, chain.last))
        row = behind(row, chain.middle)
    return counts


def band_many(patch, copies, modulus):
    """The number of the choices of a band by which all creases can fold, modulo an integer."""
    if not is_integer(copies) or not 1 <= copies <= 10 ** 30:
        raise BadNumber("copies")
    if not is_integer(modulus) or not 2 <= modulus <= 10 ** 12:
        raise BadNumber("modulus")
    chain = Chain(patch)
    if copies == 1:
        return chain.alone % modulus
    row, power = rest_of(chain.first, modulus), [rest_of(line, modulus) for line in chain.middle]
    steps = copies - 2
    while steps > 0:
        if steps % 2 == 1:
            row = rest_of(behind(row, power), modulus)
        power = [rest_of(behind(line, power), modulus) for line in power]
        steps //= 2
    return inner_product(row, chain.last) % modulus


def band_end(patch):
    """The least number of copies for which there is no choice by which all creases can fold, None if there is none."""
    chain = Chain(patch)
    # With more seams than rows of picks two seams have the same one, and what lies between goes on for ever.
    counts = counts_upto(chain, len(chain.first) + 2)
    if 0 in counts:
        return counts.index(0) + 1
    return None


def bands_alike(one, other):
    """None if two bands have as many such choices for each number of copies, otherwise the least one where not."""
    here, there = Chain(one), Chain(other)
    # The difference is a row in which so many items, as there are rows of picks, tell all that follow.
    most = len(here.first) + len(there.first) + 1
    for at, (many, others) in enumerate(zip(counts_upto(here, most), counts_upto(there, most))):
        if many != others:
            return at + 1
    return None
