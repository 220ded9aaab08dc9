"""[14.1], [14.2] Slits."""
import unittest
from itertools import product

from fourcreases.errors import NoCrease, NoSlit
from fourcreases.motions import can_fold, motions, still_creases
from fourcreases.slits import first_slits, least_slit, longer_slits, slit_folds, slit_motions
from tests.makers import (
    chain_net, fold_net, grid, kites, ladder, rhombs, single, small_fold_net, star, stiff_net, triangle_nets, uneven_nets,
    with_fins, zigzag,
)
from tests.reckoning import as_rows, lies_in, line_rows, null_rows
from tests.test_books import half_fold_net
from tests.test_motions import half_stiff, large_sheets
from tests.things import DIGITS_40, unchanged, wrong_things


def joined_corners(sheet, one, other):
    return tuple(sorted((one, other))) in sheet.creases


def all_slits(sheet, most=99):
    """All slits of at most so many corners, by the words of the document, those with fewer corners first."""
    found = []
    rows = [(corner,) for corner in range(len(sheet.corners)) if corner not in sheet.inner]
    for _ in range(most - 1):
        rows = [
            (*row, corner) for row in rows for corner in sheet.inner
            if corner not in row and joined_corners(sheet, row[-1], corner)
        ]
        found.extend(sorted(rows))
    return found


def cut_by(slit):
    return {tuple(sorted(pair)) for pair in zip(slit, slit[1:])}


def spaces_without(sheet, slit):
    """The spaces of all choices for the corners that are not on the slit, each once, as they come."""
    left = [k for k, crease in enumerate(sheet.creases) if crease not in cut_by(slit)]
    corners = [corner for corner in sheet.inner if corner not in slit]
    spaces = []
    for choice in product((1, 2), repeat=len(corners)):
        rows = [row for corner, pick in zip(corners, choice) for row in line_rows(sheet, corner, pick)]
        space = as_rows(null_rows([[row[k] for k in left] for row in rows], len(left)))
        if space not in spaces:
            spaces.append(space)
    return spaces


def greatest(spaces):
    return [
        one for one in spaces
        if not any(one != other and all(lies_in(row, other) for row in one) for other in spaces)
    ]


def folding(sheet, slit):
    """The creases that some stand of the slit sheet folds."""
    left = [crease for crease in sheet.creases if crease not in cut_by(slit)]
    return {
        crease for space in spaces_without(sheet, slit) for row in space
        for crease, number in zip(left, row) if number[0]
    }


def some_sheets():
    return [
        star(), grid(2, 2), grid(3, 3), zigzag(3, 3), zigzag(2, 3), small_fold_net(), half_stiff(), rhombs(2), kites(3),
        chain_net(4), *triangle_nets(), *uneven_nets(), with_fins(small_fold_net(), 3),
    ]


class MotionsTest(unittest.TestCase):
    def test_by_linear_equations(self):
        for sheet in some_sheets():
            for slit in all_slits(sheet)[::7]:
                found = unchanged(self, slit_motions, sheet, list(slit))
                self.assertIs(type(found), list)
                self.assertEqual(found, greatest(spaces_without(sheet, slit)))
                self.assertEqual(slit_motions(sheet=sheet, slit=slit), found)

    def test_folds_by_linear_equations(self):
        seen = set()
        for sheet in (*some_sheets(), half_fold_net()):
            for slit in all_slits(sheet)[::11]:
                moving = folding(sheet, slit)
                for crease in sheet.creases:
                    if crease not in cut_by(slit):
                        self.assertIs(slit_folds(sheet, slit, crease), crease in moving)
                        seen.add((crease in moving, can_fold(sheet, crease)))
                        self.assertTrue(crease in moving or not can_fold(sheet, crease))
        self.assertEqual(len(seen), 3)

    def test_star(self):
        self.assertEqual(slit_motions(star(), (1, 0)), [(
            ((1, 1), (0, 1), (0, 1)), ((0, 1), (1, 1), (0, 1)), ((0, 1), (0, 1), (1, 1)),
        )])
        self.assertIs(slit_folds(star(), [1, 0], (0, 2)), True)

    def test_told_as_motions_are(self):
        # The slit leaves one corner alone, whose motions are told over the creases that are left.
        sheet = chain_net(2)
        slit = [corner for corner in sheet.rim if joined_corners(sheet, corner, 0)][:1] + [0]
        left = [crease for crease in sheet.creases if crease not in cut_by(slit)]
        rows = slit_motions(sheet, slit)
        self.assertEqual(len(rows), 2)
        for space in rows:
            self.assertEqual(len(space), 3)
            self.assertEqual({len(row) for row in space}, {len(left)})

    def test_large_sheets(self):
        for sheet in (*large_sheets(), with_fins(stiff_net(), 14), with_fins(chain_net(9), 10), kites(9)):
            for slit in all_slits(sheet, 3)[:2]:
                found = slit_motions(sheet, slit)
                self.assertTrue(found)
                left = len(sheet.creases) - len(slit) + 1
                self.assertEqual({len(row) for space in found for row in space} - {left}, set())
                for crease in sheet.creases[::9]:
                    if crease not in cut_by(slit):
                        place = [c for c in sheet.creases if c not in cut_by(slit)].index(crease)
                        wanted = any(row[place][0] for space in found for row in space)
                        self.assertIs(slit_folds(sheet, slit, crease), wanted)

    def test_slit_through_all_corners(self):
        sheet = chain_net(4)
        slit = [corner for corner in sheet.rim if joined_corners(sheet, corner, 0)][:1] + [0, 1, 2, 3]
        left = len(sheet.creases) - 4
        self.assertEqual(slit_motions(sheet, slit), [
            tuple(tuple((int(k == j), 1) for k in range(left)) for j in range(left)),
        ])


class ErrorsTest(unittest.TestCase):
    def check(self, sheet, slit):
        self.assertRaises(NoSlit, slit_motions, sheet, slit)
        for crease in (sheet.creases[0] if sheet.creases else (0, 1), None, (True, 2), "ab", (0, 10 ** 39)):
            self.assertRaises(NoSlit, slit_folds, sheet, slit, crease)

    def test_no_slits(self):
        sheet = grid(3, 3)
        self.assertEqual((sheet.inner, sheet.rim[:4]), ((5, 6, 9, 10), (0, 1, 2, 3)))
        slit_motions(sheet, (1, 5, 6, 10, 9))
        for slit in [
            (), [], (1,), (5,), [1], (5, 6), (5, 1), (1, 5, 4), (1, 5, 9, 8), (1, 6), (1, 5, 10), (0, 5), (1, 2), (1, 5, 1),
            (1, 5, 6, 5), (1, 5, 5), (1, 1), (1, 5, 6, 10, 9, 5), (True, 5), (1, 5, (6,)), (1, [5]), (1, None), (1, "5"),
            (1, (5, 1)), (1, DIGITS_40), (-15, 5), (1, -11), "15", {1: 5, 5: 6}, (99, 5), (4, 5, 4), (1, 5, 6, 7),
        ]:
            self.check(sheet, slit)
        for thing in wrong_things():
            if thing != [1, 2]:
                self.check(sheet, thing)
        self.check(sheet, [1, 2])
        for plain in (single(), ladder(5)):
            self.check(plain, (0, 1))
            self.check(plain, (0, 2))

    def test_neighbours_without_a_crease(self):
        sheet = star()
        self.check(sheet, (5, 0))
        self.check(sheet, (0, 1))
        for corner in (1, 2, 3, 4):
            self.assertEqual(len(slit_motions(sheet, (corner, 0))), 1)

    def test_no_creases(self):
        sheet = grid(3, 3)
        slit = (1, 5, 6)
        self.assertIs(slit_folds(crease=(6, 7), slit=slit, sheet=sheet), True)
        for crease in [*wrong_things(), (1, 5), (5, 6), (5, 1), (0, 1), [6, 7], (6, 7, 8), (True, 5), (7, 6)]:
            self.assertRaises(NoCrease, slit_folds, sheet, slit, crease)
        for crease in [*wrong_things(), (5, 1), [6, 7]]:
            self.assertRaises(NoCrease, least_slit, sheet, crease)


class LeastTest(unittest.TestCase):
    def test_longer_and_longer_slits(self):
        for sheet in (*some_sheets(), stiff_net(), chain_net(9)):
            slits = first_slits(sheet)
            found = list(slits)
            while slits:
                slits = longer_slits(sheet, slits)
                found.extend(slits)
            self.assertEqual(found, all_slits(sheet, 10))

    def test_by_all_slits(self):
        lengths = set()
        for sheet in (*some_sheets(), half_fold_net()):
            slits = all_slits(sheet)
            moving = {}
            for crease in still_creases(sheet):
                wanted = None
                for slit in slits:
                    if crease not in cut_by(slit):
                        if slit not in moving:
                            moving[slit] = folding(sheet, slit)
                        if crease in moving[slit]:
                            wanted = slit
                            break
                self.assertEqual(least_slit(sheet, crease), wanted)
                lengths.add(None if wanted is None else len(wanted))
        self.assertTrue(lengths >= {2}, lengths)

    def test_creases_that_fold(self):
        for sheet in some_sheets():
            still = still_creases(sheet)
            for crease in sheet.creases:
                self.assertEqual(least_slit(sheet, crease) == (), crease not in still)

    def test_large_stiff_sheet(self):
        sheet = stiff_net()
        for crease in sheet.creases:
            slit = least_slit(crease=crease, sheet=sheet)
            self.assertIs(type(slit), tuple)
            self.assertNotIn(crease, cut_by(slit))
            self.assertIs(slit_folds(sheet, slit, crease), True)
            for other in all_slits(sheet, len(slit)):
                if other == slit:
                    break
                self.assertTrue(crease in cut_by(other) or not slit_folds(sheet, other, crease))
        self.assertEqual(motions(sheet), [()])

    def test_large_sheets_come_to_their_end(self):
        for sheet in (with_fins(stiff_net(), 14), with_fins(fold_net(), 14), with_fins(chain_net(9), 10), grid(4, 4)):
            for crease in sheet.creases[::4]:
                slit = least_slit(sheet, crease)
                self.assertEqual(slit == (), can_fold(sheet, crease))


if __name__ == "__main__":
    unittest.main()
