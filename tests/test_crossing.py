"""[6.5] Plates that cross."""
import unittest
from fractions import Fraction
from itertools import combinations, permutations

from fourcreases.crossing import crossing_plates, crossing_point, is_crossing
from fourcreases.errors import NoPlate, NoStand
from fourcreases.space import placed
from tests.makers import (
    chain_net, fold_net, grid, ladder, pair, rhombs, single, small_fold_net, star, strip, wide_star, with_fins, zigzag,
)
from tests.reckoning import have_inner_point, is_within, solid
from tests.test_space import stands_of
from tests.things import DIGITS_40, unchanged, wrong_things


def numbers_of(*parts):
    return tuple(pair(part) for part in parts)


def space_point(*parts):
    return tuple(pair(part) for part in parts)


def rolls():
    """Sheets with a stand and the pairs of plates that cross there."""
    half = Fraction(1, 2)
    return [
        # Four squares are a tube: they only touch; a fifth one lies over the first one.
        (strip([1] * 4), [1] * 3, []),
        (strip([1] * 5), [1] * 4, [(0, 4)]),
        (strip([1] * 5), [-1] * 4, [(0, 4)]),
        (strip([1] * 9), [1] * 8, [(0, 4), (0, 8), (1, 5), (2, 6), (3, 7), (4, 8)]),
        # The end comes down onto the first plate, beside it, or goes through it.
        (strip([2, 1, 1, 1]), [1] * 3, []),
        (strip([2, 1, 1, half]), [1] * 3, []),
        (strip([2, 1, 1, 2]), [1] * 3, [(0, 3)]),
        (strip([2, 1, 3, 2]), [1] * 3, []),
        # The last plate lies beside the first one in one plane, partly over it, in it, or apart from it.
        (strip([1, 1, 2, 1, 1]), [1] * 4, []),
        (strip([1, 1, Fraction(3, 2), 1, 1]), [1] * 4, [(0, 4)]),
        (strip([1, 1, Fraction(3, 2), 1, half]), [1] * 4, []),
        (strip([1, 1, 1, 1, half]), [1] * 4, [(0, 4)]),
        (strip([1, 1, 3, 1, 1]), [1] * 4, []),
        (strip([1, 1, 1, 2, 1]), [1] * 4, []),
        # A tip that ends above the first plate, on it, and below it.
        (strip([8, 5, 4], 6, 4), [1] * 3, []),
        (strip([8, 4, 4], 6, 4), [1] * 3, []),
        (strip([8, 3, 4], 6, 4), [1] * 3, [(0, 3)]),
        # Nothing is folded; one fold alone; parallel planes.
        (strip([1] * 6), [0] * 5, []),
        (strip([1, 1]), [DIGITS_40], []),
        (strip([1, 1, 1]), [1, 1], []),
        (strip([1, 1, 1]), [1, -1], []),
    ]


class CrossingTest(unittest.TestCase):
    def test_told_rolls(self):
        for sheet, numbers, wanted in rolls():
            self.check(sheet, numbers_of(*numbers), wanted)

    def check(self, sheet, numbers, wanted):
        found = crossing_plates(sheet, numbers)
        self.assertIs(type(found), list)
        self.assertEqual(found, wanted)
        self.assertEqual(found, crossing_by_forms(sheet, numbers))
        placing = placed(sheet, numbers)
        for one, other in permutations(range(len(sheet.plates)), 2):
            place = crossing_point(sheet, numbers, one, other)
            self.assertEqual(place is None, (min(one, other), max(one, other)) not in wanted)
            if place is not None:
                self.check_point(sheet, numbers, placing, one, other, place)

    def check_point(self, sheet, numbers, placing, one, other, place):
        self.assertIs(type(place), tuple)
        self.assertTrue(is_within(placing[one], place) and is_within(placing[other], place))
        self.assertIs(is_crossing(sheet, numbers, one, other, place), True)
        self.assertIs(is_crossing(sheet, list(numbers), other, one, place), True)

    def test_by_inequalities(self):
        found = 0
        for sheet in (star(), zigzag(3, 3), rhombs(3), grid(3, 3), small_fold_net(), chain_net(3), wide_star(3), single()):
            for numbers in stands_of(sheet):
                self.check(sheet, numbers, crossing_by_forms(sheet, numbers))
        for k in range(1, 8):
            sheet = strip([1 + Fraction(j * j * k % 5, 3) for j in range(9)])
            numbers = numbers_of(*[Fraction(j * k % 7 + 2, 4) for j in range(8)])
            wanted = crossing_by_forms(sheet, numbers)
            found += len(wanted)
            self.check(sheet, numbers, wanted)
        self.assertGreater(found, 20)

    def test_large_sheets(self):
        found = 0
        for sheet in (fold_net(), with_fins(fold_net(), 14), chain_net(9)):
            for factor in (1, -6, 90):
                numbers = tuple(pair(Fraction(*number) * factor) for number in stands_of(sheet)[1])
                found += len(crossing_plates(sheet, numbers))
                self.assertEqual(crossing_plates(sheet, numbers), crossing_by_forms(sheet, numbers))
        self.assertGreater(found, 0)

    def test_flat_stand(self):
        for sheet in (star(), fold_net(), rhombs(9), ladder(40), grid(4, 4), single()):
            zeros = [(0, 1)] * len(sheet.creases)
            self.assertEqual(crossing_plates(sheet, zeros), [])
            if len(sheet.plates) > 1:
                self.assertIsNone(crossing_point(sheet, zeros, 0, 1))

    def test_common_crease(self):
        for sheet, numbers, wanted in rolls():
            numbers = numbers_of(*numbers)
            for crease in sheet.creases:
                self.assertIsNone(crossing_point(sheet, numbers, *sheet.beside(crease)))
                self.assertNotIn(tuple(sorted(sheet.beside(crease))), wanted)

    def test_forty_digits(self):
        far = 3 * DIGITS_40
        for sheet, wanted in ((strip([1] * 29), 58), (ladder(40), None)):
            numbers = numbers_of(*[Fraction(DIGITS_40 + k, far - 5 * k) for k in range(len(sheet.creases))])
            found = crossing_plates(sheet, numbers)
            if wanted is not None:
                self.assertEqual(len(found), wanted)
            for one, other in found[:3] + found[-3:]:
                place = crossing_point(sheet, numbers, other, one)
                self.assertIs(is_crossing(sheet, numbers, one, other, place), True)
                moved = (*place[:2], pair(Fraction(*place[2]) + Fraction(1, DIGITS_40)))
                self.assertIs(is_crossing(sheet, numbers, one, other, moved), False)

    def test_lists_are_new(self):
        sheet, numbers, wanted = rolls()[3]
        first = crossing_plates(sheet, numbers_of(*numbers))
        first.append(7)
        self.assertEqual(crossing_plates(sheet, numbers_of(*numbers)), wanted)
        zeros = numbers_of(*[0] * 8)
        first = crossing_plates(sheet, zeros)
        first.append(7)
        self.assertEqual(crossing_plates(sheet, zeros), [])


def crossing_by_forms(sheet, numbers):
    placing = placed(sheet, numbers)
    return [
        (one, other) for one, other in combinations(range(len(sheet.plates)), 2)
        if have_inner_point(placing[one], placing[other])
    ]


class IsCrossingTest(unittest.TestCase):
    def test_one_plane(self):
        sheet, numbers = strip([1, 1, Fraction(3, 2), 1, 1]), numbers_of(1, 1, 1, 1)
        # The last plate lies from -1/2 to 1/2, the first one from 0 to 1.
        for place in ((Fraction(1, 4), Fraction(1, 2), 0), (Fraction(1, DIGITS_40), Fraction(1, 3), 0)):
            self.assertIs(is_crossing(sheet, numbers, 0, 4, space_point(*place)), True)
            self.assertIs(is_crossing(sheet, numbers, 4, 0, space_point(*place)), True)
        for place in (
            (0, Fraction(1, 2), 0), (Fraction(1, 2), Fraction(1, 2), 0), (Fraction(1, 4), 0, 0), (Fraction(1, 4), 1, 0),
            (Fraction(3, 4), Fraction(1, 2), 0), (Fraction(-1, 4), Fraction(1, 2), 0), (5, 5, 0), (0, 0, 0),
            (Fraction(1, 4), Fraction(1, 2), Fraction(1, DIGITS_40)), (Fraction(1, 4), Fraction(1, 2), 1),
        ):
            self.assertIs(is_crossing(sheet, numbers, 0, 4, space_point(*place)), False)

    def test_two_planes(self):
        sheet, numbers = strip([2, 1, 1, 2]), numbers_of(1, 1, 1)
        # The last plate goes down through the first one at 1 to the east.
        third = Fraction(1, 3)
        self.assertIs(is_crossing(sheet, numbers, 0, 3, space_point(1, third, 0)), True)
        for place in ((1, 0, 0), (1, 1, 0), (1, 2, 0), (1, third, third), (1, third, -third), (third, third, 0)):
            self.assertIs(is_crossing(sheet, numbers, 0, 3, space_point(*place)), False)
        for one, other in ((0, 1), (1, 0), (1, 3), (2, 3)):
            self.assertIs(is_crossing(sheet, numbers, one, other, space_point(1, third, 0)), False)

    def test_a_point_where_they_only_touch(self):
        sheet, numbers = strip([2, 1, 1, 1]), numbers_of(1, 1, 1)
        self.assertIs(is_crossing(sheet, numbers, 0, 3, space_point(1, Fraction(1, 3), 0)), False)
        sheet, numbers = strip([8, 4, 4], 6, 4), numbers_of(1, 1, 1)
        self.assertIs(is_crossing(sheet, numbers, 0, 3, space_point(4, 3, 0)), False)

    def test_the_placing_of_placed(self):
        sheet, numbers = strip([2, 1, 1, 2]), numbers_of(-1, -1, -1)
        place = crossing_point(sheet, numbers, 3, 0)
        self.assertEqual((place[0], place[2]), ((1, 1), (0, 1)))
        sheet = strip([1] * 6)
        place = crossing_point(sheet, numbers_of(1, 1, 1, 1, 1), 5, 1)
        self.assertEqual(solid(place)[0], 1)

    def test_no_space_points(self):
        sheet, numbers = strip([2, 1, 1, 2]), numbers_of(1, 1, 1)
        good = space_point(1, Fraction(1, 3), 0)
        self.assertIs(is_crossing(sheet, numbers, 0, 3, good), True)
        for wrong in [
            *wrong_things(), list(good), good[:2], (*good, (0, 1)), ((1, 1), (1, 3), (0, 2)), ((1, 1), (2, 6), (0, 1)),
            ((1, 1), [1, 3], (0, 1)), ((True, 1), (1, 3), (0, 1)), ((1, True), (1, 3), (0, 1)), (1, (1, 3), 0), sheet,
            ((1, 1), (1, 3), (False, 1)),
        ]:
            self.assertIs(is_crossing(sheet, numbers, 0, 3, wrong), False, wrong)

    def test_four_hundred_digits(self):
        sheet, numbers = strip([2, 1, 1, 2]), numbers_of(1, 1, 1)
        far = 10 ** 399
        self.assertIs(is_crossing(sheet, numbers, 0, 3, space_point(1, Fraction(far - 1, far), 0)), True)
        self.assertIs(is_crossing(sheet, numbers, 0, 3, space_point(1, Fraction(far + 1, far), 0)), False)
        self.assertIs(is_crossing(sheet, numbers, 0, 3, space_point(1, Fraction(1, 2), Fraction(1, far))), False)


class WrongTest(unittest.TestCase):
    def test_wrong_stands(self):
        for wrong in [*wrong_things(), [(1, 1)] * 4, [(0, 1)] * 3, [(0, 1)] * 5]:
            with self.assertRaises(NoStand, msg=wrong):
                crossing_plates(star(), wrong)
            for one in (0, None, 4):
                with self.assertRaises(NoStand, msg=wrong):
                    crossing_point(star(), wrong, one, 1)
                with self.assertRaises(NoStand, msg=wrong):
                    is_crossing(star(), wrong, one, 1, None)

    def test_wrong_plates(self):
        zeros = [(0, 1)] * 4
        good = space_point(0, 0, 0)
        for wrong in [*wrong_things(), -1, 4, 10 ** 39, "0", (0,), [0], (0, 1)]:
            if type(wrong) is int and wrong in (0, 1):
                continue
            for one, other in ((wrong, 2), (2, wrong), (wrong, wrong)):
                with self.assertRaises(NoPlate, msg=wrong):
                    crossing_point(star(), zeros, one, other)
                for thing in (good, None):
                    with self.assertRaises(NoPlate, msg=wrong):
                        is_crossing(star(), zeros, one, other, thing)
        for same in range(4):
            with self.assertRaises(NoPlate):
                crossing_point(star(), zeros, same, same)
            with self.assertRaises(NoPlate):
                is_crossing(star(), zeros, same, same, good)

    def test_by_name_and_unchanged(self):
        sheet, numbers = strip([2, 1, 1, 2]), list(numbers_of(1, 1, 1))
        place = crossing_point(other=3, one=0, numbers=numbers, sheet=sheet)
        self.assertEqual(crossing_plates(numbers=numbers, sheet=sheet), [(0, 3)])
        self.assertIs(is_crossing(thing=place, other=3, one=0, numbers=numbers, sheet=sheet), True)
        self.assertEqual(unchanged(self, crossing_plates, sheet, numbers), [(0, 3)])
        self.assertEqual(unchanged(self, crossing_point, sheet, numbers, 0, 3), place)
        self.assertIs(unchanged(self, is_crossing, sheet, numbers, 0, 3, place), True)


if __name__ == "__main__":
    unittest.main()
