"""[4.1] Numbers of a sheet, and stands."""
import unittest
from fractions import Fraction

from fourcreases.errors import NoNumbers
from fourcreases.motions import motions
from fourcreases.stands import is_stand, open_corner
from tests.makers import fold_net, grid, ladder, pair, rhombs, single, small_fold_net, star, stiff_net, worth, zigzag
from tests.reckoning import sum_of
from tests.things import DIGITS_40, unchanged, wrong_things


def some_stands(sheet):
    """The flat stand, and sums of multiples of the rows of each motion."""
    wide = len(sheet.creases)
    stands = [((0, 1),) * wide]
    for rows in motions(sheet)[:8]:
        stands += rows
        stands.append(sum_of(rows, [Fraction(3 * k - 4, k + 2) for k in range(len(rows))], wide))
        stands.append(sum_of(rows, [Fraction(k - 5, DIGITS_40) for k in range(len(rows))], wide))
    return stands


def some_sheets():
    return [
        star(), grid(2, 1), grid(3, 3), zigzag(4, 4), rhombs(4), fold_net(), small_fold_net(), stiff_net(), ladder(7),
        single(),
    ]


class StandsTest(unittest.TestCase):
    def test_stands(self):
        for sheet in some_sheets():
            for numbers in some_stands(sheet):
                self.assertIs(is_stand(sheet, numbers), True)
                self.assertIs(is_stand(sheet, list(numbers)), True)
                self.assertIsNone(open_corner(sheet, numbers))
                self.assertIsNone(open_corner(sheet, list(numbers)))

    def test_document(self):
        self.assertIs(is_stand(star(), [(2, 1), (-1, 1), (2, 1), (1, 1)]), True)
        self.assertIs(is_stand(star(), [(1, 1), (2, 1), (-1, 1), (2, 1)]), True)
        self.assertIs(is_stand(star(), [(2, 1), (1, 1), (2, 1), (1, 1)]), False)
        self.assertEqual(open_corner(star(), [(2, 1), (1, 1), (2, 1), (1, 1)]), 0)

    def test_open_at_one_corner(self):
        sheet = rhombs(4)
        for at, corner in enumerate(sheet.inner):
            numbers = [(0, 1)] * len(sheet.creases)
            numbers[sheet.creases.index(sheet.around(corner)[0])] = (1, 3)
            self.assertIs(is_stand(sheet, numbers), False)
            self.assertEqual(open_corner(sheet, numbers), corner)

    def test_the_first_of_several_is_told(self):
        sheet = rhombs(4)
        for first in range(4):
            numbers = [(0, 1)] * len(sheet.creases)
            for corner in sheet.inner[first:]:
                numbers[sheet.creases.index(sheet.around(corner)[1])] = (-2, 5)
            self.assertEqual(open_corner(sheet, numbers), sheet.inner[first])
        self.assertEqual(open_corner(grid(3, 3), [(1, 1)] * 12), 5)

    def test_each_number_counts(self):
        sheet = fold_net()
        numbers = motions(sheet)[0][0]
        for at, crease in enumerate(sheet.creases):
            other = list(numbers)
            other[at] = pair(worth(other[at]) + 1)
            self.assertIs(is_stand(sheet, other), False)
            self.assertEqual(open_corner(sheet, other), min(set(crease) & set(sheet.inner)))

    def test_creases_without_inner_ends(self):
        self.assertIs(is_stand(ladder(3), [(5, 7), (-DIGITS_40, 3)]), True)
        self.assertIs(is_stand(single(), []), True)
        self.assertIs(is_stand(single(), ()), True)
        self.assertIsNone(open_corner(single(), []))

    def test_no_numbers(self):
        good = [(2, 1), (-1, 1), (2, 1), (1, 1)]
        wrong = [
            *wrong_things(), good[:3], [*good, (0, 1)], dict(enumerate(good)), [*good[:3], None], [*good[:3], (2, 2)],
            [*good[:3], (1, True)], [*good[:3], [1, 1]], [[2, 1], *good[1:]], [(0, 1)] * 700,
        ]
        for thing in wrong:
            self.assertIs(is_stand(star(), thing), False, thing)
            with self.assertRaises(NoNumbers, msg=thing):
                open_corner(star(), thing)
        for thing in wrong:
            if thing not in ([], ()):
                self.assertIs(is_stand(single(), thing), False, thing)

    def test_by_name_and_unchanged(self):
        good = [(2, 1), (-1, 1), (2, 1), (1, 1)]
        self.assertIs(is_stand(thing=good, sheet=star()), True)
        self.assertIsNone(open_corner(numbers=good, sheet=star()))
        self.assertIs(unchanged(self, is_stand, star(), good), True)
        self.assertIsNone(unchanged(self, open_corner, star(), good))


if __name__ == "__main__":
    unittest.main()
