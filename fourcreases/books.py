"""Books of signs: which way each crease of a stand is folded."""
from fourcreases.cases import ZEROS, case_rows, ends_told, ties_between, whole_row
from fourcreases.choices import all_choices, choice_rows
from fourcreases.errors import BadBook, BadNumber
from fourcreases.kinds import is_integer, is_row
from fourcreases.knots import knots_of
from fourcreases.laying import joining
from fourcreases.motions import round_product
from fourcreases.ratios import UNIT, times
from fourcreases.rings import open_ring


def check_book(sheet, book):
    """Raise BadBook unless this is a row of the integers 1, -1 and 0, one for each crease."""
    if not is_row(book) or len(book) != len(sheet.creases):
        raise BadBook()
    for sign in book:
        if not is_integer(sign) or sign not in (-1, 0, 1):
            raise BadBook()


def sign_of(number):
    """-1, 0 or 1, as a fraction is below 0, 0 or above it."""
    if number[0] == 0:
        return 0
    return 1 if number[0] > 0 else -1


def line_with(lines, signs):
    """0 for four zeros, 1 or 2 for the line of a corner that has four signs, None if none has."""
    if signs == [0, 0, 0, 0]:
        return 0
    for at, line in enumerate(lines):
        # The first line has the multiple itself at its first crease, the second one at its second crease.
        if signs == [signs[at] * sign_of(worth) for worth in line]:
            return at + 1
    return None


def picks_of(knots, book):
    """For each inner corner what `line_with` tells of its signs."""
    return [line_with(lines, [book[place] for place in places]) for places, lines in knots]


def told_by_picks(knots, picks):
    """What such picks, none of them None, tell of the inner corners, in the form of `case_rows`."""
    return [(places, lines[pick - 1] if pick > 0 else ZEROS) for (places, lines), pick in zip(knots, picks)]


def book_stand(sheet, book):
    """A stand that has a book, None if there is none."""
    check_book(sheet, book)
    knots = knots_of(sheet)
    picks = picks_of(knots, book)
    if None in picks:
        return None
    numbers = {}
    for row in case_rows(len(book), told_by_picks(knots, picks)):
        # Each row begins with 1, and its other signs follow from the first one.
        start = (book[min(row)], 1)
        for place in row:
            numbers[place] = times(start, row[place])
    stand = whole_row(len(book), numbers)
    return stand if [sign_of(number) for number in stand] == list(book) else None


def book_bar(sheet, book):
    """None if some stand has a book, otherwise the first corner that bars it, or a round."""
    check_book(sheet, book)
    knots = knots_of(sheet)
    picks = picks_of(knots, book)
    if None in picks:
        return ("corner", sheet.inner[picks.index(None)])
    told = told_by_picks(knots, picks)
    ring = open_ring(ties_between(told, ends_told(told))[0])
    if ring is None:
        return None
    return ("round", tuple([sheet.inner[knot] for knot in ring]))


def is_ring(sheet, signs, thing):
    """Tell whether something is a row of unlike inner corners, joined round by creases whose signs are not 0."""
    if not is_row(thing) or len(thing) < 3:
        return False
    for corner in thing:
        if not is_integer(corner) or corner not in sheet.inner:
            return False
    for at, corner in enumerate(thing):
        if signs.get(joining(thing[at - 1], corner), 0) == 0:
            return False
    return len(set(thing)) == len(thing)


def is_round(sheet, book, thing):
    """Tell whether something is a round of a book that no corner bars."""
    check_book(sheet, book)
    knots = knots_of(sheet)
    picks = picks_of(knots, book)
    if None in picks or not is_ring(sheet, dict(zip(sheet.creases, book)), thing):
        return False
    told = told_by_picks(knots, picks)
    worths = {corner: dict(zip(sheet.around(corner), told[at][1])) for at, corner in enumerate(sheet.inner)}
    return round_product(thing, worths) != UNIT


def marks_of(rows):
    """For each crease the place of the first one of its row, and its sign if that one has 1.

    The rows have a number other than 0 at each crease, just one of them at each.
    """
    marks = {}
    for row in rows:
        for place in row:
            marks[place] = (min(row), sign_of(row[place]))
    return [marks[place] for place in range(len(marks))]


def full_marks(sheet):
    """The list of the marks of the choices by which all creases can fold.

    A book without 0 tells the line at each inner corner, so no two of these have one in common.
    """
    knots = knots_of(sheet)
    found = []
    for choice in all_choices(len(knots)):
        rows = choice_rows(sheet, knots, choice)
        if sum([len(row) for row in rows]) == len(sheet.creases):
            found.append(marks_of(rows))
    return found


def heads_from(marks, start):
    """How many rows begin at a place or behind it."""
    return len([place for place in range(start, len(marks)) if marks[place][0] == place])


def allows(marks, signs, sign):
    """Tell whether, behind the signs of the first creases, a sign may be the next one."""
    head, worth = marks[len(signs)]
    return head == len(signs) or signs[head] * worth == sign


def books_many(sheet):
    """The number of the books without 0 that some stand has."""
    return sum([1 << heads_from(marks, 0) for marks in full_marks(sheet)])


def book_number(sheet, number):
    """The book with a number among those that `books_many` counts, in ascending order."""
    left = full_marks(sheet)
    if not is_integer(number) or not 0 <= number < sum([1 << heads_from(marks, 0) for marks in left]):
        raise BadNumber("number")
    signs = []
    ahead = number
    for place in range(len(sheet.creases)):
        down = [marks for marks in left if allows(marks, signs, -1)]
        many = sum([1 << heads_from(marks, place + 1) for marks in down])
        if ahead < many:
            left = down
            signs.append(-1)
        else:
            ahead -= many
            left = [marks for marks in left if allows(marks, signs, 1)]
            signs.append(1)
    return tuple(signs)
