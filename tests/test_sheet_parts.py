"""[2.2] What a sheet tells of itself."""
import unittest
from fractions import Fraction
from math import atan2, pi

from fourcreases.errors import NoCorner, NoCrease
from fourcreases.sheets import Sheet
from tests.makers import (
    fold_net, grid, ladder, point, points, rhombs, single, small_fold_net, star, stiff_net, wide_star, with_fins,
    worth, zigzag,
)
from tests.things import wrong_things


def some_sheets():
    return [
        star(), single(), grid(1, 1), grid(2, 1), grid(2, 2), grid(3, 3), grid(4, 4), grid(10, 2), zigzag(3, 2),
        ladder(40), rhombs(1), rhombs(9), fold_net(), small_fold_net(), stiff_net(), wide_star(12),
        with_fins(fold_net(), 14),
    ]


def all_sides(sheet):
    """The dict from directed sides to plates."""
    return {
        (plate[k - 1], plate[k]): number for number, plate in enumerate(sheet.plates) for k in range(len(plate))
    }


class DocumentTest(unittest.TestCase):
    def test_example(self):
        sheet = star()
        self.assertEqual([sheet.inner, sheet.creases], [(0,), ((0, 1), (0, 2), (0, 3), (0, 4))])
        self.assertEqual([sheet.rim, sheet.beside((0, 2))], [(1, 5, 2, 6, 3, 7, 4, 8), (1, 0)])
        self.assertEqual(sheet.inside, ())
        self.assertEqual(sheet.around(0), ((0, 1), (0, 2), (0, 3), (0, 4)))


class PartsTest(unittest.TestCase):
    def test_kinds(self):
        for sheet in some_sheets():
            for row in (sheet.corners, sheet.plates, sheet.creases, sheet.rim, sheet.inner, sheet.inside):
                self.assertIs(type(row), tuple)
            for rows in (sheet.corners, sheet.plates, sheet.creases):
                self.assertEqual({type(row) for row in rows} - {tuple}, set())

    def test_creases_and_rim(self):
        for sheet in some_sheets():
            sides = all_sides(sheet)
            creases = sorted((a, b) for a, b in sides if a < b and (b, a) in sides)
            self.assertEqual(list(sheet.creases), creases)
            rim = {(a, b) for a, b in sides if (b, a) not in sides}
            ring = sheet.rim
            self.assertEqual({(ring[k - 1], ring[k]) for k in range(len(ring))}, rim)
            self.assertEqual(ring[0], min(ring))
            self.assertEqual(len(set(ring)), len(ring))

    def test_inner_and_inside(self):
        for sheet in some_sheets():
            inner = tuple(k for k in range(len(sheet.corners)) if k not in sheet.rim)
            self.assertEqual(sheet.inner, inner)
            inside = tuple(k for k, plate in enumerate(sheet.plates) if set(plate) <= set(inner))
            self.assertEqual(sheet.inside, inside)

    def test_told_ones(self):
        self.assertEqual(single().rim, (0, 1, 2))
        self.assertEqual((single().creases, single().inner, single().inside), ((), (), ()))
        self.assertEqual(grid(2, 1).creases, ((1, 4),))
        self.assertEqual(grid(2, 1).rim, (0, 1, 2, 5, 4, 3))
        self.assertEqual((grid(3, 3).inner, grid(3, 3).inside), ((5, 6, 9, 10), (4,)))
        self.assertEqual(grid(4, 4).inside, (5, 6, 9, 10))
        self.assertEqual(fold_net().inside, (0, 1, 2, 3))
        self.assertEqual(rhombs(9).inside, ())

    def test_rim_begins_in_the_midst(self):
        places = [(0, 3), (0, 0), (4, 0)]
        self.assertEqual(Sheet(points(*places), [(1, 2, 0)]).rim, (0, 1, 2))
        places = [(4, 0), (0, 3), (0, 0)]
        self.assertEqual(Sheet(points(*places), [(2, 0, 1)]).rim, (0, 1, 2))
        places = [(0, 0), (0, 3), (4, 0)]
        self.assertEqual(Sheet(points(*places), [(0, 2, 1)]).rim, (0, 2, 1))


class AroundTest(unittest.TestCase):
    def test_counterclockwise_and_least_first(self):
        for sheet in some_sheets():
            for corner in sheet.inner:
                around = sheet.around(corner)
                self.assertEqual(set(around), {crease for crease in sheet.creases if corner in crease})
                self.assertEqual(around[0], min(around))
                self.assertEqual(len(around), 4)
                angles = [self.angle(sheet, corner, sum(crease) - corner) for crease in around]
                gaps = [(angles[k] - angles[k - 1]) % (2 * pi) for k in range(4)]
                self.assertAlmostEqual(sum(gaps), 2 * pi)

    def angle(self, sheet, corner, other):
        (x, y), (p, q) = sheet.corners[corner], sheet.corners[other]
        return atan2(worth(q) - worth(y), worth(p) - worth(x))

    def test_least_crease_is_told_from_the_other_end(self):
        sheet = grid(2, 2)
        self.assertEqual(sheet.around(4), ((1, 4), (4, 5), (4, 7), (3, 4)))

    def test_wrong(self):
        for sheet in (star(), grid(3, 3), single()):
            for wrong in [*wrong_things(), -1, 10 ** 39, len(sheet.corners), *sheet.rim, (0,), [0], "0", (0, 1)]:
                if wrong in sheet.inner and type(wrong) is int:
                    continue
                with self.assertRaises(NoCorner, msg=wrong):
                    sheet.around(wrong)

    def test_flags_are_no_corners(self):
        with self.assertRaises(NoCorner):
            star().around(False)
        corners = star().corners[1::-1] + star().corners[2:]
        sheet = Sheet(corners, [(1, 0, 5, 2), (1, 2, 6, 3), (1, 3, 7, 4), (1, 4, 8, 0)])
        self.assertEqual(sheet.inner, (1,))
        with self.assertRaises(NoCorner):
            sheet.around(True)

    def test_by_name(self):
        self.assertEqual(star().around(corner=0), star().around(0))


class BesideTest(unittest.TestCase):
    def test_left_and_right(self):
        for sheet in some_sheets():
            sides = all_sides(sheet)
            for a, b in sheet.creases:
                self.assertEqual(sheet.beside((a, b)), (sides[a, b], sides[b, a]))

    def test_wrong(self):
        sheet = star()
        for wrong in [
            *wrong_things(), (1, 0), [0, 1], (1, 5), (5, 1), (0, 5), (0, 0), (0, 1, 2), (0,), (False, 1), (0, True),
            (False, True), ((0, 1),), "01", ("0", "1"), (0, [1]), ([0], 1), {0: 1}, (0, None), (-4, 1), (10 ** 39, 1),
        ]:
            with self.assertRaises(NoCrease, msg=wrong):
                sheet.beside(wrong)

    def test_sheet_without_creases(self):
        with self.assertRaises(NoCrease):
            single().beside((0, 1))

    def test_by_name(self):
        self.assertEqual(star().beside(crease=(0, 2)), (1, 0))


class EqualTest(unittest.TestCase):
    def test_equal(self):
        for one, other in zip(some_sheets(), some_sheets()):
            self.assertTrue(one == other)
            self.assertFalse(one != other)

    def test_unlike(self):
        sheets = some_sheets()
        for k, one in enumerate(sheets):
            for j, other in enumerate(sheets):
                self.assertEqual(one == other, k == j)
                self.assertEqual(one != other, k != j)

    def test_order_counts(self):
        sheet = star()
        self.assertFalse(sheet == Sheet(sheet.corners, sheet.plates[1:] + sheet.plates[:1]))
        self.assertFalse(sheet == Sheet(sheet.corners, [plate[1:] + plate[:1] for plate in sheet.plates]))
        self.assertTrue(sheet == Sheet(list(sheet.corners), [list(plate) for plate in sheet.plates]))
        moved = [point(worth(x) + Fraction(1, 3), worth(y)) for x, y in sheet.corners]
        self.assertFalse(sheet == Sheet(moved, sheet.plates))

    def test_other_things(self):
        sheet = single()
        parts = (sheet.corners, sheet.plates)
        for other in (None, 0, True, "sheet", (), sheet.corners, parts, {}, [sheet], NoCorner()):
            self.assertFalse(sheet == other)
            self.assertFalse(other == sheet)
            self.assertTrue(sheet != other)


if __name__ == "__main__":
    unittest.main()
