"""[7.3], [7.4] Sheets that are folded flat."""
import unittest
from fractions import Fraction
from itertools import combinations

from fourcreases.errors import BadLot, NoStand
from fourcreases.motions import motions
from fourcreases.pressing import flat_placing, pressed
from fourcreases.space import placed
from tests.makers import (
    chain_net, fold_net, grid, ladder, pair, points, rhombs, single, small_fold_net, star, strip, wide_star, with_fins,
    worth, zigzag,
)
from tests.reckoning import corner_mn
from tests.test_space import some_sheets, stands_of
from tests.things import DIGITS_40, unchanged, wrong_things


def numbers_of(point):
    return tuple(map(worth, point))


def mirror(start, end, place):
    """A point of the plane, mirrored in a line."""
    (a, b), (c, d), (x, y) = start, end, place
    along, up = c - a, d - b
    factor = 2 * ((x - a) * along + (y - b) * up) / (along ** 2 + up ** 2)
    return 2 * a + factor * along - x, 2 * b + factor * up - y


def carried(sheet, row, number, place):
    """Where a point of the sheet comes to lie with a plate, of which a row of points tells the places."""
    a, b, c = [numbers_of(sheet.corners[corner]) for corner in sheet.plates[number][:3]]
    p, q, r = [numbers_of(point) for point in row[:3]]
    det = (b[0] - a[0]) * (c[1] - a[1]) - (b[1] - a[1]) * (c[0] - a[0])
    x, y = place[0] - a[0], place[1] - a[1]
    s = (x * (c[1] - a[1]) - y * (c[0] - a[0])) / det
    t = ((b[0] - a[0]) * y - (b[1] - a[1]) * x) / det
    return tuple(i + s * (j - i) + t * (k - i) for i, j, k in zip(p, q, r))


def is_flat_placing(sheet, lot, rows):
    """Judge a flat placing by the words of the document."""
    if rows[0] != tuple(sheet.corners[corner] for corner in sheet.plates[0]):
        return False
    for crease in sheet.creases:
        left, right = sheet.beside(crease)
        start, end = [numbers_of(rows[right][sheet.plates[right].index(corner)]) for corner in crease]
        for corner, point in zip(sheet.plates[left], rows[left]):
            place = carried(sheet, rows[right], right, numbers_of(sheet.corners[corner]))
            if crease in lot:
                place = mirror(start, end, place)
            if place != numbers_of(point):
                return False
    return True


def may_lie_flat(sheet, lot):
    """The fifth fact."""
    for corner in sheet.inner:
        around = sheet.around(corner)
        m, n = corner_mn(sheet, corner)
        shut = [crease in lot for crease in around]
        good = [[False] * 4, [True] * 4]
        good += [[True, False] * 2] * (m == 0) + [[False, True] * 2] * (n == 0)
        if shut not in good:
            return False
    return True


class FlatTest(unittest.TestCase):
    def test_none_and_all(self):
        for sheet in [*some_sheets(), chain_net(9), with_fins(fold_net(), 14), grid(4, 4)]:
            flat = tuple(tuple(sheet.corners[corner] for corner in plate) for plate in sheet.plates)
            self.assertEqual(flat_placing(sheet, []), flat)
            rows = flat_placing(sheet, sheet.creases)
            self.assertTrue(is_flat_placing(sheet, sheet.creases, rows))

    def test_each_lot(self):
        for sheet in (star(), grid(2, 2), rhombs(1), rhombs(2), zigzag(2, 3), ladder(5), wide_star(4), zigzag(3, 2)):
            found = set()
            for many in range(len(sheet.creases) + 1):
                for lot in combinations(sheet.creases, many):
                    rows = flat_placing(sheet, lot)
                    self.assertEqual(rows is not None, may_lie_flat(sheet, lot))
                    found.add(rows is None)
                    if rows is not None:
                        self.check(sheet, lot, rows)
            self.assertEqual(found, {True, False} if sheet.inner else {False})

    def check(self, sheet, lot, rows):
        self.assertEqual({type(rows), *map(type, rows)}, {tuple})
        self.assertEqual({type(point) for row in rows for point in row}, {tuple})
        self.assertTrue(is_flat_placing(sheet, lot, rows))

    def test_told_ones(self):
        sheet = grid(2, 2)
        # The corner within is 4; its creases go to 1, 3, 5 and 7.
        self.assertEqual(sheet.creases, ((1, 4), (3, 4), (4, 5), (4, 7)))
        rows = flat_placing(sheet, [(4, 5), (3, 4)])
        self.assertEqual(rows[0], tuple(points((0, 0), (1, 0), (1, 1), (0, 1))))
        self.assertEqual(rows[2], tuple(points((0, 1), (1, 1), (1, 0), (0, 0))))
        self.assertEqual(rows[3], tuple(points((1, 1), (2, 1), (2, 0), (1, 0))))
        rows = flat_placing(sheet, list(sheet.creases))
        self.assertEqual(rows[3], tuple(points((1, 1), (0, 1), (0, 0), (1, 0))))
        for lot in ([(1, 4)], [(1, 4), (4, 5)], [(1, 4), (3, 4), (4, 5)], [(1, 4), (3, 4), (4, 7)]):
            self.assertIsNone(flat_placing(sheet, lot))
        self.assertIsNone(flat_placing(star(), [(0, 1), (0, 3)]))
        self.assertIsNone(flat_placing(star(), [(0, 2), (0, 4)]))

    def test_one_corner_among_several(self):
        sheet = grid(3, 3)
        columns = [crease for crease in sheet.creases if crease[1] - crease[0] == 4]
        self.check(sheet, columns, flat_placing(sheet, columns))
        self.assertIsNone(flat_placing(sheet, columns[:-1]))
        self.assertIsNone(flat_placing(sheet, sheet.around(5)))
        rows = [crease for crease in sheet.creases if crease[1] - crease[0] == 1]
        self.check(sheet, rows[:3], flat_placing(sheet, rows[:3]))

    def test_without_inner_corners(self):
        self.assertEqual(flat_placing(single(), []), (single().corners,))
        sheet = strip([1, 2, 1])
        self.assertEqual(flat_placing(sheet, [(1, 5)])[1], tuple(points((1, 0), (-1, 0), (-1, 1), (1, 1))))
        self.assertEqual(flat_placing(sheet, ((2, 6), (1, 5)))[2], tuple(points((-1, 0), (0, 0), (0, 1), (-1, 1))))

    def test_many_digits(self):
        sheet = strip([Fraction(DIGITS_40 + k, 7 * DIGITS_40 - k) for k in range(29)])
        self.check(sheet, sheet.creases[::3], flat_placing(sheet, sheet.creases[::3]))

    def test_bad_lots(self):
        for wrong in [
            *wrong_things(), [(0, 1), (0, 1)], [(1, 0)], [[0, 1]], [(False, 1)], [(0, True)], [(0, 5)], [(1, 5)], (0, 1),
            [(0, 1), None], {(0, 1): 1}, [(0, 1, 2)], [()], [0, 1], "01", [(0, 1), (0, 2), (0, 3), (0, 4), (0, 2)],
        ]:
            if wrong in ((), []):
                continue
            with self.assertRaises(BadLot, msg=wrong):
                flat_placing(star(), wrong)
        with self.assertRaises(BadLot):
            flat_placing(single(), [(0, 1)])

    def test_by_name_and_unchanged(self):
        rows = flat_placing(lot=[], sheet=star())
        self.assertEqual(unchanged(self, flat_placing, star(), []), rows)
        unchanged(self, flat_placing, star(), list(star().creases))


class PressedTest(unittest.TestCase):
    def test_stands(self):
        for sheet in some_sheets():
            for numbers in stands_of(sheet):
                lot = [crease for crease, number in zip(sheet.creases, numbers) if number[0] != 0]
                rows = pressed(sheet, numbers)
                self.assertEqual(rows, flat_placing(sheet, lot))
                self.assertTrue(is_flat_placing(sheet, lot, rows))

    def test_flat_stand(self):
        for sheet in (star(), fold_net(), single()):
            zeros = [(0, 1)] * len(sheet.creases)
            self.assertEqual(pressed(sheet, zeros), flat_placing(sheet, ()))

    def test_some_numbers_nought(self):
        sheet = zigzag(3, 3)
        kinds = set()
        for rows in motions(sheet):
            for numbers in rows:
                kinds.add(numbers.count((0, 1)))
                lot = tuple(crease for crease, number in zip(sheet.creases, numbers) if number != (0, 1))
                self.assertTrue(is_flat_placing(sheet, lot, pressed(sheet, list(numbers))))
        self.assertGreater(len(kinds), 1)

    def test_great_multiples_come_near(self):
        for sheet in (star(), small_fold_net(), zigzag(3, 3), rhombs(2)):
            numbers = stands_of(sheet)[1]
            great = tuple(pair(worth(number) * 10 ** 9) for number in numbers)
            for row, other in zip(placed(sheet, great), pressed(sheet, numbers)):
                for place, point in zip(row, other):
                    gaps = [worth(a) - worth(b) for a, b in zip(place, (*point, (0, 1)))]
                    self.assertLess(max(map(abs, gaps)), Fraction(1, 10 ** 6))

    def test_wrong(self):
        for wrong in [*wrong_things(), [(1, 1)] * 4, [(0, 1)] * 3, star().creases]:
            with self.assertRaises(NoStand, msg=wrong):
                pressed(star(), wrong)

    def test_by_name_and_unchanged(self):
        numbers = [(2, 1), (-1, 1), (2, 1), (1, 1)]
        rows = pressed(numbers=numbers, sheet=star())
        self.assertEqual(unchanged(self, pressed, star(), numbers), rows)


if __name__ == "__main__":
    unittest.main()
