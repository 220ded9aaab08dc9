"""[3.1] and [3.2] Fractions, tangents and lines of corners."""
import unittest
from fractions import Fraction
from math import atan2, isclose, pi, tan

from fourcreases.corners import corner_fractions, corner_tangents, line_of
from fourcreases.errors import NoCorner, NoNumbers
from fourcreases.sheets import Sheet
from tests.makers import (
    fold_net, fractions_mn, grid, net_ways, pair, points, rhombs, single, small_fold_net, star, stiff_net,
    step, wide_star, worth, zigzag,
)
from tests.reckoning import corner_mn, turn_round
from tests.things import DIGITS_40, unchanged, wrong_things

ONES = [(1, 1), (1, 1), (1, 1), (1, 1)]


def some_sheets():
    return [
        star(), grid(3, 3), zigzag(4, 4), rhombs(3), fold_net(), small_fold_net(), stiff_net(), wide_star(15),
        upright(Fraction(2), Fraction(2)), upright(Fraction(3), Fraction(1, 3)), single(),
    ]


def upright(u, v):
    """One inner corner with these tangents."""
    ways = net_ways([[(Fraction(u), Fraction(v))]])[0][0]
    tips = [step((0, 0), way, 1) for way in ways]
    places = [(0, 0), *tips]
    places += [(tips[k - 1][0] + tips[k][0], tips[k - 1][1] + tips[k][1]) for k in (1, 2, 3, 0)]
    return Sheet(points(*places), [(0, 1, 5, 2), (0, 2, 6, 3), (0, 3, 7, 4), (0, 4, 8, 1)])


def four_of(sheet, corner, line, s):
    m, n = map(worth, corner_fractions(sheet, corner))
    row = (s, -m * s, s, m * s) if line == 1 else (-n * s, s, n * s, s)
    return [pair(x) for x in row]


class FractionsTest(unittest.TestCase):
    def test_document(self):
        self.assertEqual(
            [corner_tangents(star(), 0), corner_fractions(star(), 0)], [((1, 1), (1, 3)), ((1, 2), (-1, 2))]
        )

    def test_by_their_definition(self):
        for sheet in some_sheets():
            for corner in sheet.inner:
                m, n = corner_mn(sheet, corner)
                self.assertEqual(corner_fractions(sheet, corner), (pair(m), pair(n)))
                u, v = map(worth, corner_tangents(sheet, corner))
                self.assertEqual(fractions_mn(u, v), (m, n))
                self.assertTrue(u > 0 and v > 0 and -1 < m < 1 and -1 < n < 1)

    def test_tangents_are_of_half_the_angles(self):
        for sheet in (star(), fold_net(), zigzag(3, 3)):
            for corner in sheet.inner:
                x, y = map(worth, sheet.corners[corner])
                angles = []
                for crease in sheet.around(corner):
                    p, q = map(worth, sheet.corners[sum(crease) - corner])
                    angles.append(atan2(q - y, p - x))
                u, v = map(worth, corner_tangents(sheet, corner))
                self.assertTrue(isclose(u, tan((angles[1] - angles[0]) % (2 * pi) / 2)))
                self.assertTrue(isclose(v, tan((angles[2] - angles[1]) % (2 * pi) / 2)))

    def test_noughts(self):
        self.assertEqual(corner_fractions(grid(2, 2), 4), ((0, 1), (0, 1)))
        self.assertEqual(corner_tangents(grid(2, 2), 4), ((1, 1), (1, 1)))
        self.assertEqual(corner_fractions(upright(2, 2), 0), ((-3, 5), (0, 1)))
        self.assertEqual(corner_fractions(upright(3, Fraction(1, 3)), 0), ((0, 1), (-4, 5)))
        self.assertEqual(corner_tangents(upright(3, Fraction(1, 3)), 0), ((3, 1), (1, 3)))

    def test_many_digits(self):
        u, v = Fraction(10 ** 15 + 1, 10 ** 15 + 7), Fraction(10 ** 15 + 3, 10 ** 15 - 9)
        self.assertEqual(corner_tangents(wide_star(15), 0), (pair(u), pair(v)))

    def test_wrong_corners(self):
        for call in (corner_fractions, corner_tangents):
            for wrong in [*wrong_things(), 1, 8, 9, -1, DIGITS_40, False, True]:
                if wrong == 0 and type(wrong) is int:
                    continue
                with self.assertRaises(NoCorner, msg=wrong):
                    call(star(), wrong)
            with self.assertRaises(NoCorner):
                call(single(), 0)

    def test_by_name(self):
        self.assertEqual(corner_fractions(corner=0, sheet=star()), ((1, 2), (-1, 2)))
        self.assertEqual(corner_tangents(corner=0, sheet=star()), ((1, 1), (1, 3)))


class LineTest(unittest.TestCase):
    def test_document(self):
        self.assertEqual(line_of(star(), 0, [(2, 1), (-1, 1), (2, 1), (1, 1)]), 1)

    def test_lines(self):
        for sheet in some_sheets():
            for corner in sheet.inner:
                for s in (Fraction(1), Fraction(-2, 7), Fraction(DIGITS_40, 3)):
                    for line in (1, 2):
                        self.assertEqual(line_of(sheet, corner, four_of(sheet, corner, line, s)), line)
                        self.assertEqual(line_of(sheet, corner, tuple(four_of(sheet, corner, line, s))), line)

    def test_zeros(self):
        for sheet in some_sheets():
            for corner in sheet.inner:
                self.assertEqual(line_of(sheet, corner, [(0, 1)] * 4), 0)

    def test_on_none(self):
        for sheet in some_sheets():
            for corner in sheet.inner:
                for line in (1, 2):
                    for at in range(4):
                        four = four_of(sheet, corner, line, Fraction(3))
                        four[at] = pair(worth(four[at]) + 1)
                        self.assertIsNone(line_of(sheet, corner, four))
                sums = zip(four_of(sheet, corner, 1, Fraction(1)), four_of(sheet, corner, 2, Fraction(1)))
                self.assertIsNone(line_of(sheet, corner, [pair(worth(a) + worth(b)) for a, b in sums]))
        self.assertIsNone(line_of(star(), 0, ONES))

    def test_where_fractions_are_nought(self):
        sheet = grid(2, 2)
        self.assertEqual(line_of(sheet, 4, [(3, 1), (0, 1), (3, 1), (0, 1)]), 1)
        self.assertEqual(line_of(sheet, 4, [(0, 1), (3, 1), (0, 1), (3, 1)]), 2)
        self.assertIsNone(line_of(sheet, 4, [(3, 1), (0, 1), (2, 1), (0, 1)]))
        self.assertIsNone(line_of(sheet, 4, [(3, 1), (3, 1), (3, 1), (3, 1)]))
        self.assertIsNone(line_of(sheet, 4, [(0, 1), (0, 1), (0, 1), (1, 1)]))

    def test_first_fact(self):
        for sheet in (star(), zigzag(2, 2), small_fold_net(), upright(2, 2)):
            for corner in sheet.inner:
                fours = [four_of(sheet, corner, line, s) for line in (1, 2) for s in (Fraction(2), Fraction(-1, 3))]
                fours += [ONES, [(1, 1), (-1, 1), (1, 1), (-1, 1)], [(0, 1), (1, 1), (0, 1), (0, 1)]]
                for four in fours:
                    closes = goes_round(sheet, corner, [worth(x) for x in four])
                    self.assertEqual(line_of(sheet, corner, four) is not None, closes)

    def test_no_numbers(self):
        good = [(2, 1), (-1, 1), (2, 1), (1, 1)]
        for wrong in [
            *wrong_things(), good[:3], good + [(0, 1)], {0: (2, 1)}, [*good[:3], None], [*good[:3], (True, 1)],
            [*good[:3], (2, 2)], [*good[:3], [1, 1]], [*good[:3], 1], [(0, 2), *good[1:]],
        ]:
            with self.assertRaises(NoNumbers, msg=wrong):
                line_of(star(), 0, wrong)

    def test_no_corner_comes_first(self):
        for wrong in (None, 1, True, False, "0", (0,), [0], 9, -1, {}):
            for four in (ONES, None, []):
                with self.assertRaises(NoCorner):
                    line_of(star(), wrong, four)

    def test_by_name_and_unchanged(self):
        self.assertIsNone(line_of(four=ONES, corner=0, sheet=star()))
        self.assertIsNone(unchanged(self, line_of, star(), 0, list(ONES)))


def goes_round(sheet, corner, four):
    """Tell whether the first plate comes back where it lay, each plate turned out of the plane of the one ahead."""
    x, y = map(worth, sheet.corners[corner])
    ends = []
    for crease in sheet.around(corner):
        p, q = map(worth, sheet.corners[sum(crease) - corner])
        ends.append((p - x, q - y, Fraction(0)))
    marks = [(Fraction(1), Fraction(0), Fraction(0)), (Fraction(0), Fraction(1), Fraction(0))]
    moved = list(marks)
    # To turn about creases that were carried along is to turn about the flat ones in reverse order.
    for end, number in list(zip(ends, four))[::-1]:
        moved = [turn_round((Fraction(0),) * 3, end, number, mark) for mark in moved]
    return moved == marks


if __name__ == "__main__":
    unittest.main()
