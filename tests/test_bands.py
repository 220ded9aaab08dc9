"""[12.1] to [12.4] Patches and bands."""
import unittest
from fractions import Fraction
from itertools import product

from fourcreases.bands import Patch, band_end, band_many, band_sheet, bands_alike
from fourcreases.errors import BadCorners, BadNumber, BadPlates, BadSeam, TooMany
from fourcreases.motions import bar_of
from fourcreases.sheets import Sheet
from tests.makers import grid, point, points, single, with_fins, zigzag
from tests.patches import COUNTED, column_patch, counted, diamond_patch
from tests.things import DIGITS_40, wrong_things

MOST = 10 ** 12
# The columns at the ends of a net of two by three plates.
LEFT, RIGHT = (0, 3, 6, 9), (2, 5, 8, 11)


def choices_many(sheet):
    """The number of the choices by which all creases can fold."""
    return sum(bar_of(sheet, choice) is None for choice in product((1, 2), repeat=len(sheet.inner)))


def top_heavy(sheet, one, other):
    """A sheet with a plate more, above the side from one corner to another of equal height, that widens upwards."""
    (x, y), (x_end, _) = [[Fraction(*worth) for worth in sheet.corners[corner]] for corner in (one, other)]
    many = len(sheet.corners)
    wide = [point(x_end + 3, y + 4), point(x - 3, y + 4)]
    return Sheet([*sheet.corners, *wide], [*sheet.plates, (one, other, many, many + 1)])


def three_at_a_seam():
    """A sheet at whose glued corner only three creases meet."""
    half = Fraction(21, 2)
    corners = points((0, 0), (3, 4), (0, 8), (half, 0), (half + 3, 4), (half, 8))
    return Sheet(corners, [(1, 5, 2), (0, 3, 4, 5, 1)])


class SeamTest(unittest.TestCase):
    def check(self, word, *arguments):
        with self.assertRaises(BadSeam) as caught:
            Patch(*arguments)
        self.assertEqual(caught.exception.word, word)

    def test_kept_as_tuples(self):
        sheet = grid(1, 3)
        left, right = [0, 2, 4, 6], [1, 3, 5, 7]
        patch = Patch(sheet, left, right)
        self.assertEqual((left, right), ([0, 2, 4, 6], [1, 3, 5, 7]))
        left.append(9)
        right[0] = 4
        self.assertEqual((patch.left, patch.right), ((0, 2, 4, 6), (1, 3, 5, 7)))
        self.assertIs(type(patch.left), tuple)
        self.assertIs(type(patch.right), tuple)
        self.assertEqual(patch.sheet, grid(1, 3))
        named = Patch(right=(1, 3, 5, 7), left=[0, 2, 4, 6], sheet=sheet)
        self.assertEqual((named.left, named.right), ((0, 2, 4, 6), (1, 3, 5, 7)))

    def test_three_to_five_corners(self):
        for high in range(1, 7):
            left, right = [2 * k for k in range(high + 1)], [2 * k + 1 for k in range(high + 1)]
            if 3 <= len(left) <= 5:
                self.assertEqual(Patch(grid(1, high), left, right).right, tuple(right))
            else:
                self.check("left", grid(1, high), left, right)
                self.check("left", grid(1, high), left, right[:4])
                self.check("right", grid(1, high + 3), [0, 2, 4, 6], right)
        self.check("left", grid(1, 3), [], [1, 3, 5, 7])
        self.check("right", grid(1, 3), [0, 2, 4, 6], ())

    def test_from_the_last_corner_of_the_rim_to_the_first_one(self):
        for name in ("row", "wide", "diamonds"):
            told = counted(name)
            for middle in (*told.left, *told.right):
                # The rim begins at the least corner, and that is this one if the corners have other numbers.
                order = sorted(range(len(told.sheet.corners)), key=lambda corner: (corner != middle, corner))
                names = {corner: at for at, corner in enumerate(order)}
                sheet = Sheet(
                    [told.sheet.corners[corner] for corner in order],
                    [[names[corner] for corner in plate] for plate in told.sheet.plates],
                )
                self.assertEqual(sheet.rim[0], names[middle])
                patch = Patch(sheet, [names[corner] for corner in told.left], [names[corner] for corner in told.right])
                self.assertEqual([band_many(patch, k + 1, MOST) for k in range(6)], COUNTED[name][1])

    def test_wrong_rows_one_by_one(self):
        sheet = grid(2, 3)
        Patch(sheet, LEFT, RIGHT)
        rows = [
            (0, 3, 9), (3, 0, 6), (0, 3, 6, 6), (0, 3, 0), (3, 3, 3), (0, 4, 6), (4, 7, 10), (0, 3, 12),
            (0, 3, -1), (0, 3, 6, True), (False, 3, 6), (0, 3, (6, 1)), (0, 3, "6"), "036", {0: 3, 3: 6, 6: 9},
            (0, 3, None), (0, 3, [6]), (0, 3, (6,)), (0, 3, DIGITS_40), [[0, 3, 6]], (2, 8, 5), (2, 5, 11), (5, 5, 5),
        ]
        for row in [*rows, *wrong_things()]:
            self.check("left", sheet, row, RIGHT)
            self.check("left", sheet, row, None)
            if row != (1, 2, 3):
                self.check("right", sheet, LEFT, row)

    def test_wrong_way_round(self):
        sheet = grid(2, 3)
        self.check("left", sheet, LEFT[::-1], RIGHT)
        self.check("right", sheet, LEFT, RIGHT[::-1])
        self.check("left", sheet, RIGHT, RIGHT)
        self.check("right", sheet, LEFT, LEFT)
        self.check("left", sheet, LEFT[::-1], RIGHT[::-1])

    def test_both(self):
        sheet = grid(2, 3)
        self.check("both", sheet, LEFT[:3], RIGHT)
        self.check("both", sheet, LEFT, RIGHT[1:])
        self.check("both", sheet, LEFT, (10, 9, 6, 3))
        self.check("both", sheet, (1, 0, 3), (1, 2, 5))
        self.check("both", single(), (0, 2, 1), (0, 1, 2))
        self.check("both", single(), (2, 1, 0), (2, 0, 1))

    def test_vector(self):
        self.check("vector", grid(2, 3), LEFT, (1, 2, 5, 8))
        self.check("vector", grid(3, 3), (0, 4, 8), (15, 14, 13))
        # The first two corners differ by one vector, the third ones do not.
        sheet = Sheet(points((0, 0), (4, 0), (4, 3), (0, 3), (8, 6), (0, 6)), [(0, 1, 2, 3), (3, 2, 4, 5)])
        self.check("vector", sheet, (0, 3, 5), (1, 2, 4))

    def test_glued(self):
        self.check("glued", three_at_a_seam(), (0, 1, 2), (3, 4, 5))
        # The upper plates of two copies lie over one another.
        self.check("glued", top_heavy(grid(1, 2), 4, 5), (0, 2, 4), (1, 3, 5))
        # The corners above the seams come twice.
        self.check("glued", grid(1, 3), (0, 2, 4), (1, 3, 5))
        # The seams are glued with one step between them.
        self.check("glued", zigzag(1, 3), (0, 2, 4), (1, 3, 5))
        self.check("glued", zigzag(3, 3), (0, 4, 8, 12), (3, 7, 11, 15))

    def test_glued_for_too_many_plates_or_corners(self):
        left, right = (0, 9, 18), (8, 17, 26)
        fine = with_fins(grid(8, 2), 2)
        self.assertEqual((len(fine.corners), len(fine.plates)), (29, 18))
        self.assertEqual(len(band_sheet(Patch(grid(8, 2), left, right), 1).plates), 16)
        self.assertEqual(Patch(fine, left, right).sheet, fine)
        self.check("glued", with_fins(grid(8, 2), 5), left, right)

    def test_too_many(self):
        for wide, high, fits in ((8, 2, True), (9, 2, False), (3, 3, True), (4, 3, False), (2, 4, True), (3, 4, False)):
            sheet = grid(wide, high)
            self.assertEqual(len(sheet.inner) + 2 * (high - 1) <= 9, fits)
            if fits:
                self.assertEqual(len(column_patch(sheet).left), high + 1)
            else:
                with self.assertRaises(TooMany) as caught:
                    column_patch(sheet)
                self.assertEqual(caught.exception.most, 9)

    def test_order(self):
        heavy = top_heavy(grid(3, 4), 17, 18)
        left, right = (0, 4, 8, 12, 16), (3, 7, 11, 15, 19)
        self.check("left", heavy, left[::-1], right[::-1])
        self.check("right", heavy, left[:3], right[::-1])
        self.check("both", heavy, left[:3], right)
        self.check("both", heavy, left[:4], (16, 12, 8))
        self.check("vector", heavy, left[:3], (2, 3, 7))
        self.check("glued", heavy, left, right)
        with self.assertRaises(TooMany):
            Patch(grid(3, 4), left, right)

    def test_patches_are_not_compared(self):
        self.assertNotIn("__eq__", vars(Patch))



class SheetTest(unittest.TestCase):
    def test_against_a_sheet_laid_by_hand(self):
        sheet = Sheet(points((1, 1), (0, 0), (1, 0), (0, 1), (0, 2), (1, 2)), [(1, 2, 0, 3), (0, 5, 4, 3)])
        patch = Patch(sheet, (1, 3, 4), (2, 0, 5))
        self.assertEqual(band_sheet(patch, 1), sheet)
        more = [*sheet.corners, *points((2, 1), (2, 0), (2, 2))]
        two = Sheet(more, [*sheet.plates, (2, 7, 6, 0), (6, 8, 5, 0)])
        self.assertEqual(band_sheet(patch, 2), two)
        three = Sheet([*more, *points((3, 1), (3, 0), (3, 2))], [*two.plates, (7, 10, 9, 6), (9, 11, 8, 6)])
        self.assertEqual(band_sheet(copies=3, patch=patch), three)
        nine = band_sheet(patch, 9)
        self.assertEqual((len(nine.corners), len(nine.plates), len(nine.inner)), (6 + 8 * 3, 18, 8))
        self.assertEqual(nine.corners[-3:], tuple(points((9, 1), (9, 0), (9, 2))))
        self.assertEqual(nine.plates[:6], three.plates)

    def test_by_points(self):
        for name in COUNTED:
            patch = counted(name)
            shift = [
                Fraction(*one) - Fraction(*other)
                for one, other in zip(patch.sheet.corners[patch.right[0]], patch.sheet.corners[patch.left[0]])
            ]

            def moved(plate, copy):
                spots = [patch.sheet.corners[corner] for corner in plate]
                return tuple(point(Fraction(*x) + copy * shift[0], Fraction(*y) + copy * shift[1]) for x, y in spots)

            for copies in (1, 2, 3):
                if copies * len(patch.sheet.inner) + (copies - 1) * (len(patch.left) - 2) <= 9:
                    sheet = band_sheet(patch, copies)
                    self.assertEqual(
                        [tuple(sheet.corners[corner] for corner in plate) for plate in sheet.plates],
                        [moved(plate, copy) for copy in range(copies) for plate in patch.sheet.plates],
                    )
                    found = [spot for copy in range(copies) for spot in moved(range(len(patch.sheet.corners)), copy)]
                    self.assertEqual(list(sheet.corners), list(dict.fromkeys(found)))

    def test_wrong_copies(self):
        patch = counted("row")
        for copies in [*wrong_things(), 10, -1, (2, 1), (1, 1), "2", [1]]:
            if copies == 1 and copies is not True:
                continue
            with self.assertRaises(BadNumber) as caught:
                band_sheet(patch, copies)
            self.assertEqual(caught.exception.word, "copies")

    def test_what_sheet_raises(self):
        leaning = counted("leaning")
        self.assertEqual(len(band_sheet(leaning, 2).inner), 9)
        with self.assertRaises(TooMany) as caught:
            band_sheet(leaning, 3)
        self.assertEqual(caught.exception.most, 9)
        row = counted("row")
        self.assertEqual(len(band_sheet(row, 4).inner), 7)
        with self.assertRaises(BadCorners) as caught:
            band_sheet(row, 5 + 4)
        self.assertEqual(caught.exception.at, -1)
        # Three copies have 57 corners, but 42 plates.
        fine = with_fins(grid(5, 2), 4)
        patch = Patch(fine, (0, 6, 12), (5, 11, 17))
        self.assertEqual(len(band_sheet(patch, 2).plates), 28)
        with self.assertRaises(BadPlates) as caught:
            band_sheet(patch, 3)
        self.assertEqual(caught.exception.at, -1)


class ManyTest(unittest.TestCase):
    def test_against_the_choices_of_the_sheet(self):
        judged = 0
        for name, (_, counts) in COUNTED.items():
            patch = counted(name)
            for copies in range(1, 10):
                inner = copies * len(patch.sheet.inner) + (copies - 1) * (len(patch.left) - 2)
                if inner <= 9:
                    many = choices_many(band_sheet(patch, copies))
                    self.assertEqual(band_many(patch, copies, MOST), many, (name, copies))
                    self.assertEqual(counts[copies - 1] if copies < 7 else many, many)
                    judged += 1
        self.assertGreater(judged, 25)

    def test_told_counts(self):
        for name, (_, counts) in COUNTED.items():
            patch = counted(name)
            self.assertEqual([band_many(patch, copies, MOST) for copies in range(1, 7)], counts, name)
            self.assertEqual([band_many(patch, copies, 3) for copies in range(1, 7)], [many % 3 for many in counts])

    def test_other_orders_of_plates(self):
        for name, (_, counts) in COUNTED.items():
            told = counted(name)
            for start in range(0, len(told.sheet.plates), 2):
                plates = told.sheet.plates[start:] + told.sheet.plates[:start]
                plates = [plate[start % 3:] + plate[:start % 3] for plate in plates[::-1]]
                patch = Patch(Sheet(told.sheet.corners, plates), told.left, told.right)
                self.assertEqual([band_many(patch, k + 1, MOST) for k in range(6)], counts, name)

    def test_very_many_copies(self):
        for copies in (7, 1000, 12345678901234567890, 10 ** 30 - 1, 10 ** 30):
            for modulus in (2, 3, 97, 10 ** 9 + 7, MOST - 1, MOST):
                self.assertEqual(band_many(counted("row"), copies, modulus), pow(2, 2 * copies - 1, modulus))
                wide = (2 * pow(4, copies - 1, modulus) + 2) % modulus
                self.assertEqual(band_many(counted("wide"), copies, modulus), wide)
                self.assertEqual(band_many(counted("loose diamonds"), copies, modulus), 8 % modulus)
                self.assertEqual(band_many(counted("diamonds"), copies, modulus), 0)
                self.assertEqual(band_many(counted("four"), copies, modulus), 4 % modulus)

    def test_a_band_as_a_patch(self):
        for name in ("row", "diamonds", "loose diamonds", "squares"):
            patch = counted(name)
            double = band_sheet(patch, 2)
            last = double.plates[len(patch.sheet.plates):]
            names = {
                corner: number for plate, new in zip(patch.sheet.plates, last) for corner, number in zip(plate, new)
            }
            longer = Patch(double, patch.left, [names[corner] for corner in patch.right])
            for many in (1, 2, 3, 4, 10 ** 20):
                self.assertEqual(band_many(longer, many, MOST), band_many(patch, 2 * many, MOST), name)
            ends = {"diamonds": 2, "squares": 1}
            self.assertEqual(band_end(longer), ends.get(name))

    def test_wrong_numbers(self):
        patch = counted("row")
        self.assertEqual(band_many(modulus=5, copies=1, patch=patch), 2)
        for wrong in [*wrong_things(), 0, -1, 10 ** 30 + 1, (5, 1)]:
            if not (isinstance(wrong, int) and not isinstance(wrong, bool) and 1 <= wrong <= 10 ** 30):
                for modulus in (7, 1, None, wrong):
                    with self.assertRaises(BadNumber) as caught:
                        band_many(patch, wrong, modulus)
                    self.assertEqual(caught.exception.word, "copies")
        for wrong in [*wrong_things(), 0, -7, 1, MOST + 1, (5, 1)]:
            for copies in (1, 3, 10 ** 30):
                with self.assertRaises(BadNumber) as caught:
                    band_many(patch, copies, wrong)
                self.assertEqual(caught.exception.word, "modulus")


class EndTest(unittest.TestCase):
    def test_told_ends(self):
        ends = {"stiff": 2, "diamonds": 3, "squares": 2, "more squares": 1}
        for name in COUNTED:
            self.assertEqual(band_end(counted(name)), ends.get(name), name)

    def test_none_behind_the_end(self):
        for name, (_, counts) in COUNTED.items():
            patch = counted(name)
            end = band_end(patch=patch)
            for copies in (1, 2, 3, 4, 9, 10, 77, 10 ** 30):
                # As many copies as one likes never have 0 choices modulo two primes at once by chance here.
                some = any(band_many(patch, copies, prime) for prime in (999983, 1000003, 999999000001))
                self.assertEqual(some, end is None or copies < end, (name, copies))


class AlikeTest(unittest.TestCase):
    def test_all_pairs(self):
        patches = {name: counted(name) for name in COUNTED}
        found = set()
        for one, other in product(COUNTED, repeat=2):
            here, there = COUNTED[one][1], COUNTED[other][1]
            wanted = next((k + 1 for k in range(6) if here[k] != there[k]), None)
            self.assertEqual(bands_alike(patches[one], patches[other]), wanted, (one, other))
            if one != other:
                found.add(wanted)
        self.assertEqual(found, {None, 1, 2, 3})
        self.assertIsNone(bands_alike(other=patches["four"], one=patches["other four"]))

    def test_exactly(self):
        # 4 and 8 choices are as many modulo 2 or 4.
        self.assertEqual(bands_alike(counted("four"), counted("wide")), 2)

    def test_turned_patches(self):
        for size in (Fraction(1), Fraction(9, 10)):
            self.assertIsNone(bands_alike(diamond_patch(size, Fraction(1)), counted("diamonds")))


if __name__ == "__main__":
    unittest.main()
