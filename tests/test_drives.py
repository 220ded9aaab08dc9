"""[10.1] Creases that drive other ones."""
import unittest
from fractions import Fraction

from fourcreases.drives import drive_of, undriven
from fourcreases.errors import NoCrease
from fourcreases.motions import motions, still_creases
from fourcreases.stands import is_stand
from tests.makers import (
    chain_net, fold_net, grid, kites, ladder, pair, rhombs, single, small_fold_net, star, triangle_nets, with_fins, worth,
    zigzag,
)
from tests.reckoning import corner_mn
from tests.test_motions import half_stiff, large_sheets, small_sheets
from tests.things import unchanged, wrong_things


def every_row(sheet):
    return list({row: True for rows in motions(sheet) for row in rows})


def drive_by_rows(sheet, rows, crease, other):
    """The ratio that all rows of all motions show, by the words of the document; None if there is none."""
    here, there = sheet.creases.index(crease), sheet.creases.index(other)
    pairs = [(worth(row[here]), worth(row[there])) for row in rows]
    if not any(x for pair in pairs for x in pair):
        return Fraction(0)
    ratios = {y / x for x, y in pairs if x}
    if len(ratios) != 1 or any(y and not x for x, y in pairs):
        return None
    return ratios.pop()


class DriveTest(unittest.TestCase):
    def check(self, sheet, rows, crease, other):
        wanted = drive_by_rows(sheet, rows, crease, other)
        ratio, two = drive_of(sheet, crease, other), undriven(sheet, crease, other)
        self.assertEqual(ratio, None if wanted is None else pair(wanted))
        self.assertEqual(ratio is None, two is not None)
        if two is not None:
            self.assertIs(type(two), tuple)
            here, there = sheet.creases.index(crease), sheet.creases.index(other)
            one, another = two
            self.assertTrue(is_stand(sheet, one) and is_stand(sheet, another))
            self.assertEqual(one[here], another[here])
            self.assertNotEqual(one[there], another[there])
        return ratio

    def test_all_pairs(self):
        kinds = set()
        for sheet in [*small_sheets(), *triangle_nets(), chain_net(3), kites(3)]:
            rows = every_row(sheet)
            for crease in sheet.creases:
                for other in sheet.creases:
                    ratio = self.check(sheet, rows, crease, other)
                    kinds.add(None if ratio is None else (ratio[0] > 0) - (ratio[0] < 0))
        self.assertEqual(kinds, {None, -1, 0, 1})

    def test_large_sheets(self):
        for sheet in [*large_sheets(), kites(9), chain_net(9)]:
            rows = every_row(sheet)
            for crease in sheet.creases[::13]:
                for other in sheet.creases[::9]:
                    self.check(sheet, rows, crease, other)

    def test_told_ones(self):
        sheet = fold_net()
        numbers = next(rows for rows in motions(sheet) if rows)[0]
        signs = set()
        for place, crease in enumerate(sheet.creases):
            ratio = drive_of(sheet, sheet.creases[0], crease)
            self.assertEqual(ratio, pair(worth(numbers[place]) / worth(numbers[0])))
            self.assertIsNone(undriven(sheet, crease, sheet.creases[0]))
            signs.add(ratio[0] > 0)
        self.assertEqual(signs, {True, False})
        self.assertIsNone(drive_of(star(), (0, 1), (0, 3)))
        self.assertIsNone(drive_of(star(), (0, 1), (0, 2)))

    def test_one_corner(self):
        # With m 0 one pair lies in line: its creases drive each other as long as no other line moves them.
        sheet = kites(1)
        corner = sheet.inner[0]
        self.assertIn(Fraction(0), corner_mn(sheet, corner))
        ratios = [drive_of(sheet, sheet.around(corner)[j], sheet.around(corner)[k]) for j in range(4) for k in range(4)]
        # The two others are turned up alike wherever they move at all.
        self.assertEqual(ratios.count((1, 1)), 6)
        self.assertEqual(ratios.count(None), 10)
        sheet = grid(2, 2)
        self.assertEqual(drive_of(sheet, (1, 4), (4, 7)), (1, 1))
        self.assertIsNone(drive_of(sheet, (1, 4), (3, 4)))

    def test_one_crease_twice(self):
        for sheet in (star(), half_stiff(), small_fold_net(), ladder(4)):
            still = still_creases(sheet)
            for crease in sheet.creases:
                self.assertEqual(drive_of(sheet, crease, crease), (0, 1) if crease in still else (1, 1))
                self.assertIsNone(undriven(sheet, crease, crease))

    def test_creases_that_never_fold(self):
        sheet = half_stiff()
        still = still_creases(sheet)
        moving = [crease for crease in sheet.creases if crease not in still]
        self.assertEqual(drive_of(sheet, still[0], still[1]), (0, 1))
        self.assertEqual(drive_of(sheet, moving[0], still[0]), (0, 1))
        self.assertIsNone(drive_of(sheet, still[0], moving[0]))
        self.assertIsNone(undriven(sheet, moving[0], still[0]))
        self.assertIsNotNone(undriven(sheet, still[0], moving[0]))

    def test_wrong_creases(self):
        for wrong in [*wrong_things(), (1, 0), [0, 1], (False, 1), (0, True), (0, 5), (1, 5)]:
            for call in (drive_of, undriven):
                for crease, other in ((wrong, (0, 1)), ((0, 1), wrong), (wrong, wrong)):
                    with self.assertRaises(NoCrease, msg=wrong):
                        call(star(), crease, other)
        with self.assertRaises(NoCrease):
            drive_of(single(), (0, 1), (0, 1))

    def test_by_name_and_unchanged(self):
        self.assertEqual(drive_of(other=(4, 7), crease=(1, 4), sheet=grid(2, 2)), (1, 1))
        self.assertIsNone(undriven(other=(4, 7), crease=(1, 4), sheet=grid(2, 2)))
        self.assertEqual(unchanged(self, drive_of, grid(2, 2), (1, 4), (4, 7)), (1, 1))
        self.assertIsNotNone(unchanged(self, undriven, rhombs(2), rhombs(2).creases[0], rhombs(2).creases[-1]))

    def test_creases_of_unlike_parts(self):
        sheet = with_fins(small_fold_net(), 2)
        fin = next(crease for crease in sheet.creases if not set(crease) & set(sheet.inner))
        for crease in sheet.creases:
            self.assertEqual(drive_of(sheet, crease, fin), (1, 1) if crease == fin else None)
            self.check(sheet, every_row(sheet), fin, crease)
        sheet = zigzag(4, 4)
        self.check(sheet, every_row(sheet), sheet.creases[0], sheet.creases[9])


if __name__ == "__main__":
    unittest.main()
