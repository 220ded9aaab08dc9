"""The errors of the package, each with the fields that its parameters name."""


class FoldError(ValueError):
    """The base of all errors of the package."""


class NoFraction(FoldError):
    """Something is no fraction, or there is none such."""

    def __init__(self):
        pass


class NoPoint(FoldError):
    """Something is no point of the plane."""

    def __init__(self):
        pass


class NoPlate(FoldError):
    """Something is no plate, or no number of one."""

    def __init__(self):
        pass


class BadCorners(FoldError):
    """The corners of a sheet are no row, or the one at a place is wrong."""

    def __init__(self, at):
        self.at = at


class BadPlates(FoldError):
    """The plates of a sheet are no row, or the one at a place is wrong."""

    def __init__(self, at):
        self.at = at


class BadSheet(FoldError):
    """Corners and plates make no sheet: the word tells why, the number where."""

    def __init__(self, word, at):
        self.word = word
        self.at = at


class TooMany(FoldError):
    """There are more than the most that can be treated."""

    def __init__(self, most):
        self.most = most


class NoCorner(FoldError):
    """Something is no inner corner of the sheet."""

    def __init__(self):
        pass


class NoCrease(FoldError):
    """Something is no crease of the sheet."""

    def __init__(self):
        pass


class NoNumbers(FoldError):
    """Something is no row of fractions of the wanted length."""

    def __init__(self):
        pass


class NoStand(FoldError):
    """Something is no stand of the sheet."""

    def __init__(self):
        pass


class BadChoice(FoldError):
    """Something is no choice of the sheet."""

    def __init__(self):
        pass


class BadSpaces(FoldError):
    """Spaces are no row, or the one at a place is no row of numbers."""

    def __init__(self, at):
        self.at = at


class NoPlacing(FoldError):
    """Something is no placing of the sheet."""

    def __init__(self):
        pass


class Shut(FoldError):
    """A placing has a crease that is wholly shut."""

    def __init__(self, crease):
        self.crease = crease


class NoSpot(FoldError):
    """Something is no spot of the sheet."""

    def __init__(self):
        pass


class BadNumber(FoldError):
    """The number that the word names is wrong."""

    def __init__(self, word):
        self.word = word


class NoPolynomial(FoldError):
    """Something is no polynomial, or no quotient of two."""

    def __init__(self):
        pass


class BadLot(FoldError):
    """Something is no row of unlike creases."""

    def __init__(self):
        pass


class BadBook(FoldError):
    """Something is no book of signs of the sheet."""

    def __init__(self):
        pass


class BadTold(FoldError):
    """Something is no dict from creases to fractions."""

    def __init__(self):
        pass


class NoFit(FoldError):
    """No stand has the numbers that were told."""

    def __init__(self):
        pass


class BadPrices(FoldError):
    """Something gives not just each crease a price."""

    def __init__(self):
        pass


class BadHeld(FoldError):
    """Something is no dict of held creases."""

    def __init__(self):
        pass


class NotHeld(FoldError):
    """The first stand (0) or the second one (1) does not keep what is held."""

    def __init__(self, at):
        self.at = at


class BadSeam(FoldError):
    """The seams of a patch are wrong: the word tells which."""

    def __init__(self, word):
        self.word = word


class BadTable(FoldError):
    """Something is no table of angles that is asked for."""

    def __init__(self):
        pass


class BadWish(FoldError):
    """Something is no wish for a table."""

    def __init__(self):
        pass


class BadLengths(FoldError):
    """Something is no lengths of a table."""

    def __init__(self):
        pass


class NoSlit(FoldError):
    """Something is no slit of the sheet."""

    def __init__(self):
        pass


class NoPart(FoldError):
    """A sheet is no part of another one."""

    def __init__(self):
        pass


class BadText(FoldError):
    """A text is wrong at a place."""

    def __init__(self, at):
        self.at = at


class NoTree(FoldError):
    """Something is no tree of cases."""

    def __init__(self):
        pass


class LiesOver(FoldError):
    """A plate would lie over the one with this number."""

    def __init__(self, number):
        self.number = number


class NoUndo(FoldError):
    """There is nothing to take back."""

    def __init__(self):
        pass


class BadTries(FoldError):
    """Something is no row of fractions to try."""

    def __init__(self):
        pass
