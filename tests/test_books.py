"""[8.1] to [8.3] Books of signs."""
import unittest
from fractions import Fraction
from itertools import permutations, product
from random import Random

from fourcreases.books import book_bar, book_number, book_stand, books_many, is_round
from fourcreases.errors import BadBook, BadNumber
from fourcreases.motions import motions
from fourcreases.stands import is_stand
from tests.makers import (
    FOLD_CHOICE, angles_net, chain_net, fold_net, grid, ladder, net, rhombs, single, small_fold_net, star, stiff_net,
    triangle_nets, with_fins, zigzag,
)
from tests.reckoning import corner_mn, sum_of
from tests.test_motions import half_stiff, large_sheets, small_sheets
from tests.things import DIGITS_40, unchanged, wrong_things


def signs_of(numbers):
    return tuple((top > 0) - (top < 0) for top, _ in numbers)


def lines_at(sheet, corner):
    m, n = corner_mn(sheet, corner)
    return (Fraction(1), -m, Fraction(1), m), (-n, Fraction(1), n, Fraction(1))


def line_at(sheet, book, corner):
    """The line that has a corner's signs, by all multiples that matter; None if none has."""
    told = tuple(book[sheet.creases.index(crease)] for crease in sheet.around(corner))
    for line in lines_at(sheet, corner):
        for s in (1, -1, 0):
            if told == tuple((s * x > 0) - (s * x < 0) for x in line):
                return dict(zip(sheet.around(corner), line))
    return None


def first_barring(sheet, book):
    return next((corner for corner in sheet.inner if line_at(sheet, book, corner) is None), None)


def goes_round(sheet, book, row):
    """Judge a round by the words of the document, its corners being inner ones."""
    if first_barring(sheet, book) is not None or len(row) < 3 or len(set(row)) < len(row):
        return False
    signs = dict(zip(sheet.creases, book))
    value = Fraction(1)
    for k, corner in enumerate(row):
        onward = tuple(sorted((corner, row[(k + 1) % len(row)])))
        back = tuple(sorted((corner, row[k - 1])))
        if not signs.get(onward) or not signs.get(back):
            return False
        line = line_at(sheet, book, corner)
        value = value * line[onward] / line[back]
    return value != 1


def book_by_corners(sheet, random):
    """A book that no corner bars: at each one signs of some line that fit those of the corners ahead."""
    signs = {}

    def fill(rest):
        if not rest:
            return True
        options = [
            {crease: s * ((x > 0) - (x < 0)) for crease, x in zip(sheet.around(rest[0]), line)}
            for line in lines_at(sheet, rest[0]) for s in (1, -1)
        ]
        random.shuffle(options)
        for option in [*options, dict.fromkeys(sheet.around(rest[0]), 0)]:
            if all(signs.get(crease, sign) == sign for crease, sign in option.items()):
                fresh = [crease for crease in option if crease not in signs]
                signs.update(option)
                if fill(rest[1:]):
                    return True
                for crease in fresh:
                    del signs[crease]
        return False

    fill(sheet.inner)
    return tuple(signs.get(crease, random.choice((-1, 0, 1))) for crease in sheet.creases)


def half_fold_net():
    """Two plates wholly within, round both of which the quotients do not multiply to 1."""
    table = angles_net([(Fraction(9, 10), Fraction(11, 10)), (Fraction(10, 11), 1), (1, Fraction(12, 13))],
                       [(Fraction(9, 10), Fraction(11, 10)), (1, Fraction(9, 8))], [[Fraction(14, 13), Fraction(8, 9)]])
    return net(table, [2, 3], [2], Fraction(1))


class BarTest(unittest.TestCase):
    def judge(self, sheet, book):
        """Check that just one of a stand, a corner and a round is there, and that it is right."""
        stand, bar = book_stand(sheet, book), book_bar(sheet, book)
        self.assertEqual(book_stand(sheet, list(book)), stand)
        self.assertEqual(stand is None, bar is not None)
        corner = first_barring(sheet, book)
        if stand is not None:
            self.assertIs(type(stand), tuple)
            self.assertTrue(is_stand(sheet, stand))
            self.assertEqual(signs_of(stand), tuple(book))
            self.assertIsNone(corner)
            return "stand"
        self.assertIs(type(bar), tuple)
        if bar[0] == "corner":
            self.assertEqual(bar, ("corner", corner))
        else:
            self.assertEqual((bar[0], type(bar[1]), len(bar)), ("round", tuple, 2))
            self.assertIsNone(corner)
            self.assertTrue(goes_round(sheet, book, bar[1]))
            self.assertIs(is_round(sheet, book, bar[1]), True)
            self.assertIs(is_round(sheet, list(book), list(bar[1])), True)
        return bar[0]

    def test_all_books_of_small_sheets(self):
        for sheet in (star(), single(), grid(2, 1), grid(2, 2), rhombs(1), ladder(4), zigzag(2, 3), chain_net(2)):
            books = list(product((-1, 0, 1), repeat=len(sheet.creases)))
            stands = [book for book in books if self.judge(sheet, book) == "stand"]
            lines = {tuple(signs_of(sum_of(rows, some, len(sheet.creases))))
                     for rows in motions(sheet) for some in product((-1, 0, 1), repeat=len(rows))}
            self.assertEqual(set(stands), lines)

    def test_books_of_stands(self):
        for sheet in small_sheets() + large_sheets() + [chain_net(9)]:
            random = Random(5)
            wide = len(sheet.creases)
            for rows in motions(sheet)[:40]:
                factors = [Fraction(random.randrange(-3, 4), random.randrange(1, 9)) for _ in rows]
                book = signs_of(sum_of(rows, factors, wide))
                self.assertEqual(self.judge(sheet, book), "stand")
            self.assertEqual(book_stand(sheet, [0] * wide), ((0, 1),) * wide)

    def test_one_sign_changed(self):
        for sheet in (star(), small_fold_net(), fold_net(), chain_net(4), half_stiff(), zigzag(3, 3)):
            book = signs_of(motions(sheet)[0][0])
            for at, sign in enumerate(book):
                for other in {-1, 0, 1} - {sign}:
                    changed = (*book[:at], other, *book[at + 1:])
                    ends = set(sheet.creases[at]) & set(sheet.inner)
                    self.assertEqual(self.judge(sheet, changed), "corner" if ends else "stand")

    def test_books_that_no_corner_bars(self):
        found = {}
        for sheet in [*small_sheets(), *triangle_nets(), fold_net(), stiff_net(), half_fold_net(), chain_net(5)]:
            random = Random(6)
            for _ in range(25):
                kind = self.judge(sheet, book_by_corners(sheet, random))
                found[kind] = found.get(kind, 0) + 1
        self.assertGreater(found["round"], 30)
        self.assertGreater(found["stand"], 30)

    def test_first_corner(self):
        sheet = rhombs(5)
        for first in range(5):
            book = [0] * len(sheet.creases)
            for corner in sheet.inner[first:]:
                book[sheet.creases.index(sheet.around(corner)[2])] = -1
            self.assertEqual(book_bar(sheet, book), ("corner", sheet.inner[first]))
        self.assertEqual(book_bar(star(), (1, 1, 1, 1)), ("corner", 0))
        # The first line of the star has the signs + - + +, the second one + + - +.
        for book in ((1, -1, 1, 1), (-1, 1, -1, -1), (1, 1, -1, 1), (-1, -1, 1, -1), (0, 0, 0, 0)):
            self.assertIsNone(book_bar(star(), book))
        for book in ((1, 1, 1, -1), (-1, 1, 1, 1), (1, 0, 1, 0), (0, 1, 0, 1), (1, 1, 0, 1)):
            self.assertEqual(book_bar(star(), book), ("corner", 0))

    def test_opposite_creases_in_line(self):
        sheet = grid(2, 2)
        for book in ((1, 0, 0, 1), (-1, 0, 0, -1), (0, 1, 1, 0)):
            self.assertEqual(self.judge(sheet, book), "stand")
        for book in ((1, 0, 0, -1), (1, 1, 1, 1), (0, 1, -1, 0), (1, 0, 0, 0)):
            self.assertEqual(self.judge(sheet, book), "corner")

    def test_creases_without_inner_ends(self):
        self.assertEqual(book_stand(single(), []), ())
        self.assertIsNone(book_bar(single(), ()))
        self.assertEqual(signs_of(book_stand(ladder(4), [1, 0, -1])), (1, 0, -1))

    def test_large(self):
        sheet = fold_net()
        for factor in (1, -1):
            book = tuple(factor * sign for sign in signs_of(motions(sheet)[0][0]))
            self.assertEqual(self.judge(sheet, book), "stand")


class RoundTest(unittest.TestCase):
    def rounds(self):
        for sheet in (half_fold_net(), stiff_net(), half_stiff(), *triangle_nets()):
            random = Random(7)
            for _ in range(8):
                book = book_by_corners(sheet, random)
                if all(book) or any(book):
                    bar = book_bar(sheet, book)
                    if bar is not None:
                        yield sheet, book, bar[1]

    def test_begun_elsewhere_and_turned_round(self):
        found = 0
        for sheet, book, row in self.rounds():
            for k in range(len(row)):
                other = row[k:] + row[:k]
                self.assertIs(is_round(sheet, book, other), True)
                self.assertIs(is_round(sheet, book, list(other[::-1])), True)
                found += 1
            opposite = tuple(-sign for sign in book)
            self.assertIs(is_round(sheet, opposite, row), True)
        self.assertGreater(found, 20)

    def test_all_rows_of_corners(self):
        kinds = set()
        small = [(sheet, book) for sheet, book, _ in self.rounds() if len(sheet.inner) <= 6]
        for sheet, book in (small[0], small[-1]):
            for many in range(len(sheet.inner) + 1):
                for row in permutations(sheet.inner, many):
                    wanted = goes_round(sheet, book, row)
                    self.assertIs(is_round(sheet, book, row), wanted)
                    kinds.add((many, wanted))
        self.assertLessEqual({(3, True), (4, True), (6, True), (4, False), (3, False), (0, False), (1, False)}, kinds)

    def test_wrong_rows(self):
        sheet, book, row = next(self.rounds())
        rim = sheet.rim[0]
        for thing in [
            *wrong_things(), row[:2], row[:1], row[:-1], (*row, row[0]), row * 2, (row[0], row[1], row[0], row[1]),
            (*row[:-1], rim), (*row[:-1], -1), (*row[:-1], None), (*row[:-1], str(row[-1])), (*row[:-1], [row[-1]]),
            (row[0], row[0], *row[1:]), {corner: corner for corner in row}, dict(enumerate(row)), (row,), sheet,
            (*row[:-1], 10 ** 39), (*row[:-1], sheet), [row] * 4, row[::2], tuple(map(str, row)), sheet.creases,
            (*row[:-1], (row[-1],)),
        ]:
            self.assertIs(is_round(sheet, book, thing), False, thing)
        self.assertIs(is_round(sheet, book, row), True)

    def test_flags(self):
        sheet = half_fold_net()
        rows = [(book, row) for other, book, row in self.rounds() if other == sheet and {0, 1} <= set(row)]
        for book, row in rows[:3]:
            self.assertIs(is_round(sheet, book, row), True)
            for flag in (True, False):
                changed = tuple(flag if corner == int(flag) else corner for corner in row)
                self.assertIs(is_round(sheet, book, changed), False)
        self.assertNotEqual(rows, [])

    def test_round_that_agrees(self):
        sheet = small_fold_net()
        book = signs_of(motions(sheet)[0][0])
        row = sheet.plates[sheet.inside[0]]
        self.assertIs(is_round(sheet, book, row), False)
        self.assertIs(is_round(sheet, [0] * 12, row), False)

    def test_barred_by_a_corner(self):
        for sheet, book, row in self.rounds():
            for at in range(0, len(book), 5):
                changed = (*book[:at], -book[at] or 1, *book[at + 1:])
                if first_barring(sheet, changed) is not None:
                    self.assertIs(is_round(sheet, changed, row), False)

    def test_two_plates_within(self):
        sheet = half_fold_net()
        inside = [sheet.plates[number] for number in sheet.inside]
        self.assertEqual(len(inside), 2)
        book = next(book for other, book, _ in self.rounds() if other == sheet and 0 not in book)
        whole = (0, 1, 2, 5, 4, 3)
        for row in (*inside, whole):
            self.assertIs(is_round(sheet, book, row), goes_round(sheet, book, row))
        self.assertIs(is_round(sheet, book, inside[0]), True)


class ManyTest(unittest.TestCase):
    def test_by_trying_all(self):
        for sheet in (star(), single(), grid(2, 1), grid(2, 2), ladder(5), rhombs(2), zigzag(2, 3), chain_net(2)):
            books = [book for book in product((-1, 1), repeat=len(sheet.creases)) if book_stand(sheet, book) is not None]
            self.assertEqual(books_many(sheet), len(books))
            self.assertEqual([book_number(sheet, k) for k in range(len(books))], books)
            self.check_bad(sheet, len(books))

    def check_bad(self, sheet, many):
        for wrong in (-1, many, many + 1, DIGITS_40, -DIGITS_40):
            with self.assertRaises(BadNumber) as caught:
                book_number(sheet, wrong)
            self.assertEqual(caught.exception.word, "number")

    def test_told_ones(self):
        self.assertEqual(books_many(star()), 4)
        self.assertEqual([book_number(star(), k) for k in range(4)],
                         [(-1, -1, 1, -1), (-1, 1, -1, -1), (1, -1, 1, 1), (1, 1, -1, 1)])
        self.assertEqual([books_many(single()), book_number(single(), 0)], [1, ()])
        self.assertEqual([books_many(grid(2, 1)), book_number(grid(2, 1), 1)], [2, (1,)])
        self.assertEqual([books_many(sheet) for sheet in (grid(2, 2), grid(4, 4), stiff_net(), rhombs(9))], [0] * 4)
        self.assertEqual(books_many(chain_net(9)), 1024)
        self.assertEqual(books_many(fold_net()), 2)
        self.assertEqual(books_many(with_fins(fold_net(), 14)), 2 ** 15)
        self.assertEqual(books_many(ladder(40)), 2 ** 39)

    def test_ascending(self):
        for sheet in (chain_net(4), small_fold_net(), with_fins(small_fold_net(), 4), half_stiff()):
            found = [book_number(sheet, k) for k in range(books_many(sheet))]
            self.assertEqual(found, sorted(set(found)))
            for book in found:
                self.assertIs(type(book), tuple)
                self.assertEqual(set(map(abs, book)), {1})
                self.assertEqual(signs_of(book_stand(sheet, book)), book)
            self.check_bad(sheet, len(found))

    def test_some_of_many(self):
        random = Random(8)
        for sheet in (chain_net(9), with_fins(fold_net(), 14), ladder(40), with_fins(chain_net(9), 15)):
            many = books_many(sheet)
            places = sorted({0, 1, many - 1, many // 2, *[random.randrange(many) for _ in range(8)]})
            found = [book_number(sheet, place) for place in places]
            self.assertEqual(found, sorted(set(found)))
            for book in found:
                self.assertEqual(signs_of(book_stand(sheet, book)), book)
            self.check_bad(sheet, many)
        self.assertEqual(book_number(ladder(40), 5), (-1,) * 36 + (1, -1, 1))

    def test_full_choice(self):
        sheet = fold_net()
        row = next(rows for rows in motions(sheet) if rows)[0]
        wanted = sorted([signs_of(row), tuple(-sign for sign in signs_of(row))])
        self.assertEqual([book_number(sheet, 0), book_number(sheet, 1)], wanted)
        self.assertEqual(len(FOLD_CHOICE), len(sheet.inner))

    def test_bad_numbers(self):
        for sheet in (star(), single(), rhombs(2)):
            for wrong in wrong_things():
                if type(wrong) is int and 0 <= wrong < books_many(sheet):
                    continue
                with self.assertRaises(BadNumber, msg=wrong) as caught:
                    book_number(sheet, wrong)
                self.assertEqual(caught.exception.word, "number")

    def test_by_name_and_unchanged(self):
        self.assertEqual(books_many(sheet=star()), 4)
        self.assertEqual(book_number(number=3, sheet=star()), (1, 1, -1, 1))
        self.assertEqual(unchanged(self, book_number, star(), 3), (1, 1, -1, 1))


class BadBookTest(unittest.TestCase):
    def test_bad_books(self):
        good = (1, -1, 1, 1)
        for wrong in [
            *wrong_things(), good[:3], (*good, 0), [True, -1, 1, 1], (1, -1, 1, False), (2, -1, 1, 1), (1, -2, 1, 1),
            ("1", -1, 1, 1), (1, -1, 1, None), (1, -1, 1, [1]), dict(enumerate(good)), "1111", ((1, 1),) * 4, [good],
            (DIGITS_40, 1, 1, 1), (1, -1, 1, star()), [0] * 700,
        ]:
            with self.assertRaises(BadBook, msg=wrong):
                book_stand(star(), wrong)
            with self.assertRaises(BadBook, msg=wrong):
                book_bar(star(), wrong)
            for thing in (None, (0, 1, 2)):
                with self.assertRaises(BadBook, msg=wrong):
                    is_round(star(), wrong, thing)
        for call in (book_stand, book_bar):
            with self.assertRaises(BadBook):
                call(single(), [0])

    def test_by_name_and_unchanged(self):
        book = [1, -1, 1, 1]
        stand = book_stand(book=book, sheet=star())
        self.assertIsNone(book_bar(book=book, sheet=star()))
        self.assertIs(is_round(thing=[0, 1, 2], book=book, sheet=star()), False)
        self.assertEqual(unchanged(self, book_stand, star(), book), stand)
        self.assertIsNone(unchanged(self, book_bar, star(), book))
        self.assertIs(unchanged(self, is_round, star(), book, [0, 1, 2]), False)


if __name__ == "__main__":
    unittest.main()
