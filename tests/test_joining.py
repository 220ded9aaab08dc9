"""[14.3] Sheets that are put together, and numbers of parts."""
import unittest
from random import Random

from fourcreases.errors import BadCorners, BadPlates, BadSheet, NoNumbers, NoPart, TooMany
from fourcreases.joining import cut_numbers, joined
from fourcreases.motions import motions
from fourcreases.sheets import Sheet
from fourcreases.stands import is_stand
from tests.makers import (
    chain_net, fold_net, grid, kites, point, points, rhombs, single, small_fold_net, star, with_fins, worth, zigzag,
)
from tests.test_motions import small_sheets
from tests.things import unchanged, wrong_things


def moved(sheet, x, y):
    return Sheet([point(worth(a) + x, worth(b) + y) for a, b in sheet.corners], sheet.plates)


def parts_of(sheet, random, many):
    """Sheets of some of the plates of a sheet, with other numbers of corners, plates in other orders, begun elsewhere."""
    parts = []
    while len(parts) < many:
        start = random.randrange(len(sheet.plates))
        chosen = [start]
        for _ in range(random.randrange(len(sheet.plates))):
            beside = [
                number for crease in sheet.creases for number in sheet.beside(crease)
                if set(sheet.beside(crease)) & set(chosen) and number not in chosen
            ]
            if beside:
                chosen.append(random.choice(beside))
        random.shuffle(chosen)
        corners = sorted({corner for number in chosen for corner in sheet.plates[number]})
        random.shuffle(corners)
        names = {corner: at for at, corner in enumerate(corners)}
        plates = []
        for number in chosen:
            row = [names[corner] for corner in sheet.plates[number]]
            at = random.randrange(len(row))
            plates.append(row[at:] + row[:at])
        try:
            parts.append(Sheet([sheet.corners[corner] for corner in corners], plates))
        except BadSheet:
            pass
    return parts


class JoinedTest(unittest.TestCase):
    def test_side_by_side(self):
        one, other = grid(1, 1), moved(grid(2, 1), 1, 0)
        sheet = joined(one, other)
        corners = points((0, 0), (1, 0), (0, 1), (1, 1), (2, 0), (3, 0), (2, 1), (3, 1))
        self.assertEqual(sheet, Sheet(corners, [(0, 1, 3, 2), (1, 4, 6, 3), (4, 5, 7, 6)]))
        self.assertEqual(sheet.creases, ((1, 3), (4, 6)))
        back = joined(other=one, one=other)
        self.assertEqual(back.corners[:6], other.corners)
        self.assertEqual(back.plates, ((0, 1, 4, 3), (1, 2, 5, 4), (6, 0, 3, 7)))
        self.assertEqual((one, other), (grid(1, 1), moved(grid(2, 1), 1, 0)))

    def test_inner_corners_come_to_be(self):
        sheet = joined(grid(2, 1), moved(grid(2, 2), 0, 1))
        self.assertEqual(len(sheet.inner), 2)
        self.assertEqual(sheet.plates[:2], grid(2, 1).plates)
        halves = joined(grid(4, 2), moved(grid(4, 2), 0, 2))
        self.assertEqual(len(halves.inner), 9)
        with self.assertRaises(TooMany) as caught:
            joined(grid(5, 2), moved(grid(5, 2), 0, 2))
        self.assertEqual(caught.exception.most, 9)

    def check_wrong(self, word, one, other):
        with self.assertRaises(BadSheet) as caught:
            joined(one, other)
        self.assertEqual(caught.exception.word, word)
        return caught.exception.at

    def test_common_corners_alone(self):
        self.assertEqual(self.check_wrong("rim", grid(1, 1), moved(grid(1, 1), 1, 1)), 3)

    def test_apart_and_touching(self):
        self.assertEqual(self.check_wrong("apart", grid(1, 1), moved(grid(1, 1), 5, 5)), 1)
        self.assertEqual(self.check_wrong("touch", grid(1, 1), moved(grid(1, 1), 1, worth((1, 2)))), 3)

    def test_over(self):
        self.assertEqual(self.check_wrong("over", grid(2, 1), moved(grid(1, 1), worth((1, 2)), 0)), 2)
        for sheet in (star(), small_fold_net(), single()):
            self.assertEqual(self.check_wrong("over", sheet, sheet), len(sheet.plates))
            for part in parts_of(sheet, Random(1), 3):
                self.assertEqual(self.check_wrong("over", sheet, part), len(sheet.plates))
                self.assertIn(self.check_wrong("over", part, sheet), range(len(part.plates), len(part.plates) + len(sheet.plates)))

    def test_four_and_half(self):
        # Where two sheets meet only three creases end, or four of which opposite angles make no half turn.
        wide = Sheet(points((0, 0), (2, 0), (2, -1), (0, -1)), [(3, 2, 1, 0)])
        self.assertEqual(self.check_wrong("touch", grid(2, 1), wide), 1)
        leaning = Sheet(points((0, 0), (1, 0), (4, -4), (3, -4), (2, 0), (5, -4)), [(0, 3, 2, 1), (1, 2, 5, 4)])
        self.assertEqual(self.check_wrong("half", grid(2, 1), leaning), 1)

    def test_too_many_corners_or_plates(self):
        with self.assertRaises(BadCorners) as caught:
            joined(grid(20, 1), moved(grid(20, 1), 20, 0))
        self.assertEqual(caught.exception.at, -1)
        fine = joined(grid(14, 1), moved(grid(14, 1), 14, 0))
        self.assertEqual((len(fine.corners), len(fine.plates)), (58, 28))
        one, other = with_fins(rhombs(8), 8), moved(rhombs(1), 40, 40)
        self.assertEqual(len(one.plates), 40)
        with self.assertRaises(BadPlates) as caught:
            joined(one, other)
        self.assertEqual(caught.exception.at, -1)


class CutTest(unittest.TestCase):
    def check(self, whole, part, numbers):
        """Check the numbers of a part by the points of its creases."""
        told = {
            frozenset(whole.corners[corner] for corner in crease): number
            for crease, number in zip(whole.creases, numbers)
        }
        found = unchanged(self, cut_numbers, whole, part, list(numbers))
        self.assertEqual(found, tuple(told[frozenset(part.corners[k] for k in crease)] for crease in part.creases))
        self.assertEqual(cut_numbers(whole, part, tuple(numbers)), found)
        return found

    def test_parts_of_many_sheets(self):
        random = Random(2)
        for whole in [*small_sheets(), fold_net(), kites(5), chain_net(6)]:
            numbers = [(random.randint(-9, 9) * 2 + 1, 2) for _ in whole.creases]
            for part in [*parts_of(whole, random, 4), whole]:
                self.check(whole, part, numbers)
                for rows in motions(whole)[:3]:
                    for row in rows:
                        self.assertTrue(is_stand(part, self.check(whole, part, row)))
            self.assertEqual(cut_numbers(numbers=numbers, part=whole, whole=whole), tuple(numbers))

    def test_other_numbers_of_corners(self):
        whole = star()
        corners = [whole.corners[k] for k in (5, 2, 0, 1, 6, 3)]
        part = Sheet(corners, [(4, 5, 2, 1), (2, 3, 0, 1)])
        self.assertEqual(part.creases, ((1, 2),))
        self.assertEqual(cut_numbers(whole, part, [(1, 1), (2, 1), (3, 1), (4, 1)]), ((2, 1),))
        self.assertEqual(cut_numbers(whole, Sheet(corners[:4], [(0, 1, 2, 3)]), [(1, 1)] * 4), ())

    def test_no_parts(self):
        whole = grid(2, 2)
        others = [
            single(), grid(3, 1), grid(1, 3), moved(grid(1, 1), 2, 0), moved(grid(1, 1), worth((1, 2)), 0),
            Sheet(points((0, 0), (2, 0), (2, 1), (0, 1)), [(0, 1, 2, 3)]),
            Sheet(points((0, 0), (2, 0), (2, 2), (0, 2)), [(0, 1, 2, 3)]), star(), zigzag(1, 1),
        ]
        for part in others:
            for numbers in ([(1, 1)] * 4, None, [(1, 1)], ()):
                self.assertRaises(NoPart, cut_numbers, whole, part, numbers)
        self.assertRaises(NoPart, cut_numbers, grid(1, 1), whole, ())

    def test_plates_with_points_of_others(self):
        # All points are corners of the whole sheet, but no plate of it has just these.
        whole = Sheet(points((0, 0), (4, 0), (4, 3), (0, 3)), [(0, 1, 2), (0, 2, 3)])
        other = Sheet(points((0, 0), (4, 0), (4, 3), (0, 3)), [(0, 1, 3), (1, 2, 3)])
        self.assertRaises(NoPart, cut_numbers, whole, other, [(1, 1)])
        both = Sheet(points((0, 0), (4, 0), (4, 3), (0, 3)), [(0, 1, 2, 3)])
        self.assertRaises(NoPart, cut_numbers, whole, both, [(1, 1)])
        self.assertRaises(NoPart, cut_numbers, both, whole, ())
        self.assertEqual(cut_numbers(whole, Sheet(points((4, 0), (4, 3), (0, 0)), [(1, 2, 0)]), [(5, 7)]), ())

    def test_no_numbers(self):
        whole = grid(2, 2)
        for part in (whole, grid(1, 1)):
            for thing in [*wrong_things(), [(1, 1)] * 3, [(1, 1)] * 5, [(1, 1)] * 3 + [1], [(1, 1)] * 3 + [(2, 4)]]:
                self.assertRaises(NoNumbers, cut_numbers, whole, part, thing)


if __name__ == "__main__":
    unittest.main()
