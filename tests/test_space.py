"""[6.1] to [6.4] Sheets in space."""
import unittest
from fractions import Fraction
from itertools import combinations, permutations

from fourcreases.errors import NoPlacing, NoSpot, NoStand, Shut
from fourcreases.motions import motions
from fourcreases.space import gap2, is_placing, placed, shown_numbers, spot_at
from tests.makers import (
    fold_net, grid, ladder, pair, point, rhombs, single, small_fold_net, star, wide_star, with_fins, worth, zigzag,
)
from tests.reckoning import carried_flat, crease_holds, solid, square, sum_of
from tests.things import DIGITS_40, unchanged, wrong_things

BIG = 10 ** 39 + 7


def some_sheets():
    return [
        star(), single(), grid(2, 1), grid(3, 3), zigzag(3, 3), rhombs(3), small_fold_net(), fold_net(), wide_star(5),
        ladder(9), with_fins(small_fold_net(), 4),
    ]


def stands_of(sheet):
    """Stands in which all, some and none of the numbers are 0."""
    wide = len(sheet.creases)
    stands = [((0, 1),) * wide]
    for rows in motions(sheet)[:3]:
        stands.append(sum_of(rows, [Fraction((-1) ** k * (k + 1), k + 2) for k in range(len(rows))], wide))
        stands += rows[:1]
    return stands


def plain(row):
    return tuple(map(pair, row))


def moved(placing, change):
    """A placing, each space point of it changed."""
    return [[plain(change(solid(place))) for place in row] for row in placing]


def turned(place):
    """A turn of space, and a shift."""
    x, y, z = place
    x, y = Fraction(3, 5) * x - Fraction(4, 5) * y, Fraction(4, 5) * x + Fraction(3, 5) * y
    y, z = Fraction(5, 13) * y - Fraction(12, 13) * z, Fraction(12, 13) * y + Fraction(5, 13) * z
    return x + 7, y - Fraction(1, 3), z + 2


def mirrored(place):
    x, y, z = place
    return y, x, z


class PlacedTest(unittest.TestCase):
    def test_first_plate_lies_flat(self):
        for sheet in some_sheets():
            for numbers in stands_of(sheet):
                row = placed(sheet, numbers)[0]
                self.assertEqual(row, tuple((*sheet.corners[corner], (0, 1)) for corner in sheet.plates[0]))

    def test_flat_stand(self):
        for sheet in some_sheets():
            placing = placed(sheet, [(0, 1)] * len(sheet.creases))
            self.assertEqual(
                placing, tuple(tuple((*sheet.corners[k], (0, 1)) for k in plate) for plate in sheet.plates)
            )

    def test_is_a_placing(self):
        for sheet in some_sheets():
            for numbers in stands_of(sheet):
                placing = placed(sheet, numbers)
                self.assertIs(is_placing(sheet, placing), True)
                for plate, row in zip(sheet.plates, placing):
                    for one, other in combinations(range(len(plate)), 2):
                        self.assertEqual(
                            square(row[one], row[other]), square(sheet.corners[plate[one]], sheet.corners[plate[other]])
                        )

    def test_by_the_rule_at_each_crease(self):
        for sheet in some_sheets():
            for numbers in stands_of(sheet):
                placing = placed(sheet, numbers)
                for crease, number in zip(sheet.creases, numbers):
                    self.assertTrue(crease_holds(sheet, placing, crease, number))

    def test_numbers_above_nought_lift(self):
        sheet = grid(2, 1)
        self.assertEqual(sheet.creases, ((1, 4),))
        self.assertEqual(sheet.beside((1, 4)), (0, 1))
        upright = ((1, 0, 0), (1, 0, 1), (1, 1, 1), (1, 1, 0))
        self.assertEqual(placed(sheet, [(1, 1)])[1], tuple(map(plain, upright)))
        self.assertEqual(placed(sheet, [(-1, 1)])[1][1], plain((1, 0, -1)))
        self.assertEqual(placed(sheet, [(1, 2)])[1][1], plain((Fraction(8, 5), 0, Fraction(4, 5))))
        self.assertEqual(placed(sheet, [(-1, 2)])[1][1], plain((Fraction(8, 5), 0, Fraction(-4, 5))))
        self.assertEqual(placed(sheet, [(2, 1)])[1][1], plain((Fraction(2, 5), 0, Fraction(4, 5))))

    def test_kinds(self):
        for sheet in some_sheets():
            placing = placed(sheet, stands_of(sheet)[-1])
            self.assertIs(type(placing), tuple)
            for row in placing:
                self.assertIs(type(row), tuple)
                self.assertEqual({type(place) for place in row}, {tuple})

    def test_many_digits(self):
        sheet = ladder(40)
        numbers = tuple(pair(Fraction((-1) ** k * (BIG + k), BIG - 5 * k - 1)) for k in range(39))
        placing = placed(sheet, numbers)
        self.assertIs(is_placing(sheet, placing), True)
        self.assertEqual(shown_numbers(sheet, placing), numbers)

    def test_wrong(self):
        for wrong in [*wrong_things(), [(1, 1)] * 4, [(0, 1)] * 3, [(0, 1)] * 5, ((0, 1), (0, 1), (0, 1), (0, 2))]:
            with self.assertRaises(NoStand, msg=wrong):
                placed(star(), wrong)

    def test_by_name_and_unchanged(self):
        self.assertEqual(placed(numbers=[(0, 1)] * 4, sheet=star()), placed(star(), ((0, 1),) * 4))
        unchanged(self, placed, star(), [(0, 1)] * 4)


class IsPlacingTest(unittest.TestCase):
    def test_moved_and_mirrored(self):
        for sheet in some_sheets():
            for numbers in stands_of(sheet):
                for change in (turned, mirrored):
                    self.assertIs(is_placing(sheet, moved(placed(sheet, numbers), change)), True)

    def test_distances(self):
        sheet = fold_net()
        placing = placed(sheet, stands_of(sheet)[1])
        self.assertIs(is_placing(sheet, moved(placing, lambda place: (2 * place[0], place[1], place[2]))), False)
        for corner in range(len(sheet.corners)):
            other = [
                [plain(step3(solid(place))) if k == corner else place for k, place in zip(plate, row)]
                for plate, row in zip(sheet.plates, placing)
            ]
            self.assertIs(is_placing(sheet, other), False)

    def test_distance_of_corners_without_a_common_side(self):
        # A square whose sides keep their lengths but whose corners lean.
        sheet = grid(1, 1)
        lean = [plain(place) for place in ((0, 0, 0), (1, 0, 0), (Fraction(8, 5), Fraction(4, 5), 0),
                                           (Fraction(3, 5), Fraction(4, 5), 0))]
        self.assertIs(is_placing(sheet, [lean]), False)
        self.assertIs(is_placing(sheet, [[plain((*place, 3)) for place in ((0, 0), (0, 1), (1, 1), (1, 0))]]), True)

    def test_same_place_in_all_plates(self):
        sheet = grid(2, 1)
        rows = [list(row) for row in placed(sheet, [(1, 2)])]
        self.assertIs(is_placing(sheet, rows), True)
        apart = [rows[0], moved([rows[1]], lambda place: (place[0] + 1, place[1], place[2]))[0]]
        self.assertIs(is_placing(sheet, apart), False)

    def test_plates_order(self):
        sheet = grid(2, 1)
        rows = placed(sheet, [(1, 2)])
        self.assertIs(is_placing(sheet, rows[::-1]), False)
        self.assertIs(is_placing(sheet, [rows[0][1:] + rows[0][:1], rows[1]]), False)

    def test_shut_ones_are_placings(self):
        self.assertIs(is_placing(grid(2, 1), shut_squares()), True)

    def test_wrong(self):
        sheet = grid(2, 1)
        rows = placed(sheet, [(1, 2)])
        for wrong in [
            *wrong_things(), rows[:1], [*rows, rows[0]], dict(enumerate(rows)), [rows[0], None], [rows[0], rows[1][:3]],
            [rows[0], [*rows[1], rows[1][0]]], [rows[0], dict(enumerate(rows[1]))], [rows[0], "abcd"],
        ]:
            self.assertIs(is_placing(sheet, wrong), False, wrong)
        for wrong in [
            *wrong_things(), list(rows[1][1]), rows[1][1][:2], (*rows[1][1], (0, 1)), ((16, 10), (0, 1), (4, 5)),
            ((8, 5), (0, 1), [4, 5]), ((8, 5), (0, True), (4, 5)), ((8, 5), (False, 1), (4, 5)), ((8, 5), 0, (4, 5)),
        ]:
            self.assertIs(is_placing(sheet, [rows[0], [rows[1][0], wrong, *rows[1][2:]]]), False, wrong)

    def test_four_hundred_digits(self):
        far = Fraction(10 ** 399 + 1, 10 ** 398 + 3)
        sheet = fold_net()
        numbers = stands_of(sheet)[1]
        placing = moved(placed(sheet, numbers), lambda place: (place[0] + far, place[1] - far, place[2] + 1 / far))
        self.assertIs(is_placing(sheet, placing), True)
        self.assertEqual(shown_numbers(sheet, placing), numbers)

    def test_by_name_and_unchanged(self):
        rows = [list(row) for row in placed(star(), [(0, 1)] * 4)]
        self.assertIs(is_placing(thing=rows, sheet=star()), True)
        self.assertIs(unchanged(self, is_placing, star(), rows), True)


def step3(place):
    return place[0] + Fraction(1, BIG), place[1], place[2]


def shut_squares():
    """Two squares, the second one turned back onto the first one."""
    return [
        [plain(place) for place in ((0, 0, 0), (1, 0, 0), (1, 1, 0), (0, 1, 0))],
        [plain(place) for place in ((1, 0, 0), (0, 0, 0), (0, 1, 0), (1, 1, 0))],
    ]


class ShownTest(unittest.TestCase):
    def test_numbers_of_placed(self):
        for sheet in some_sheets():
            for numbers in stands_of(sheet):
                shown = shown_numbers(sheet, placed(sheet, numbers))
                self.assertEqual(shown, numbers)
                self.assertIs(type(shown), tuple)

    def test_moved(self):
        for sheet in some_sheets():
            for numbers in stands_of(sheet):
                self.assertEqual(shown_numbers(sheet, moved(placed(sheet, numbers), turned)), numbers)

    def test_mirrored(self):
        for sheet in some_sheets():
            for numbers in stands_of(sheet):
                opposite = tuple((-top, bottom) for top, bottom in numbers)
                placing = placed(sheet, numbers)
                self.assertEqual(shown_numbers(sheet, moved(placing, mirrored)), opposite)
                self.assertEqual(shown_numbers(sheet, moved(moved(placing, mirrored), turned)), opposite)

    def test_turned_to_each_side(self):
        # Both squares rise or sink alike from the crease, which lies along each of the axes in turn.
        sheet = grid(2, 1)
        up, out = Fraction(4, 5), Fraction(3, 5)
        rows = [
            [plain(place) for place in ((-out, 0, up), (0, 0, 0), (0, 1, 0), (-out, 1, up))],
            [plain(place) for place in ((0, 0, 0), (out, 0, up), (out, 1, up), (0, 1, 0))],
        ]
        for a, b, c in permutations(range(3)):
            even = (a, b, c) in ((0, 1, 2), (1, 2, 0), (2, 0, 1))
            other = moved(rows, lambda place: (place[a], place[b], place[c]))
            self.assertEqual(shown_numbers(sheet, other), ((4 if even else -4, 3),))

    def test_no_placing(self):
        for wrong in [*wrong_things(), shut_squares()[:1], [shut_squares()[0], None]]:
            with self.assertRaises(NoPlacing, msg=wrong):
                shown_numbers(grid(2, 1), wrong)

    def test_shut(self):
        for change in (lambda place: place, turned, mirrored):
            with self.assertRaises(Shut) as caught:
                shown_numbers(grid(2, 1), moved(shut_squares(), change))
            self.assertEqual(caught.exception.crease, (1, 4))

    def test_the_first_shut_crease(self):
        sheet = grid(4, 1)
        self.assertEqual(sheet.creases, ((1, 6), (2, 7), (3, 8)))
        for first in range(3):
            for last in range(first, 3):
                rows = strip([k in (first, last) for k in range(3)])
                with self.assertRaises(Shut) as caught:
                    shown_numbers(sheet, rows)
                self.assertEqual(caught.exception.crease, sheet.creases[first])
        self.assertEqual(shown_numbers(sheet, strip([False] * 3)), ((0, 1),) * 3)

    def test_no_placing_ahead_of_shut(self):
        rows = strip([True, False, True])
        rows[3][2] = plain((9, 9, 9))
        with self.assertRaises(NoPlacing):
            shown_numbers(grid(4, 1), rows)

    def test_by_name_and_unchanged(self):
        rows = [list(row) for row in placed(star(), [(0, 1)] * 4)]
        self.assertEqual(shown_numbers(placing=rows, sheet=star()), ((0, 1),) * 4)
        unchanged(self, shown_numbers, star(), rows)


def strip(shut):
    """Four squares in a row, wholly shut at some of the three creases between them."""
    at, way = 0, 1
    edges = [0, 1]
    for closed in shut:
        way = -way if closed else way
        edges.append(edges[-1] + way)
    return [
        [plain(place) for place in ((a, 0, at), (b, 0, at), (b, 1, at), (a, 1, at))] for a, b in zip(edges, edges[1:])
    ]


class SpotTest(unittest.TestCase):
    def test_corners(self):
        for sheet in some_sheets():
            for numbers in stands_of(sheet):
                placing = placed(sheet, numbers)
                for number, plate in enumerate(sheet.plates):
                    for corner, place in zip(plate, placing[number]):
                        self.assertEqual(spot_at(sheet, numbers, (number, sheet.corners[corner])), place)

    def test_within_and_on_sides(self):
        for sheet in some_sheets():
            numbers = stands_of(sheet)[-1]
            placing = placed(sheet, numbers)
            for number, plate in enumerate(sheet.plates):
                a, b, c = [tuple(map(worth, sheet.corners[k])) for k in plate[:3]]
                for weights in ((1, 1, 1), (1, 1, 0), (0, 2, 5), (BIG, 1, 1)):
                    total = sum(weights)
                    place = tuple(
                        sum(w * x for w, x in zip(weights, row)) / Fraction(total) for row in zip(a, b, c)
                    )
                    wanted = plain(carried_flat(sheet, placing, number, place))
                    self.assertEqual(spot_at(sheet, list(numbers), (number, point(*place))), wanted)

    def test_same_point_of_two_plates(self):
        sheet = star()
        numbers = stands_of(sheet)[1]
        for number in range(4):
            self.assertEqual(spot_at(sheet, numbers, (number, point(0, 0))), plain((0, 0, 0)))

    def test_gaps(self):
        for sheet in some_sheets():
            for numbers in stands_of(sheet)[-2:]:
                spots = [(k, sheet.corners[plate[j]]) for k, plate in enumerate(sheet.plates) for j in (0, 2)]
                for one in spots[::3]:
                    for other in spots[::4]:
                        wanted = pair(square(spot_at(sheet, numbers, one), spot_at(sheet, numbers, other)))
                        self.assertEqual(gap2(sheet, numbers, one, other), wanted)
                        self.assertEqual(gap2(sheet, numbers, other, one), wanted)

    def test_gap_of_squares(self):
        sheet = grid(2, 1)
        far = ((0, point(0, 0)), (1, point(2, 0)))
        self.assertEqual(gap2(sheet, [(0, 1)], *far), (4, 1))
        self.assertEqual(gap2(sheet, [(1, 1)], *far), (2, 1))
        self.assertEqual(gap2(sheet, [(2, 1)], *far), (4, 5))
        self.assertEqual(gap2(sheet, [(1, 1)], far[0], far[0]), (0, 1))
        self.assertEqual(gap2(sheet, [(1, 1)], (0, point(1, 1)), (1, point(1, 1))), (0, 1))

    def test_wrong_stands(self):
        spot = (0, point(0, 0))
        for wrong in [*wrong_things(), [(1, 1)] * 4, [(0, 1)] * 3]:
            for some in (spot, None):
                with self.assertRaises(NoStand, msg=wrong):
                    gap2(star(), wrong, some, some)
                with self.assertRaises(NoStand, msg=wrong):
                    spot_at(star(), wrong, some)

    def test_wrong_spots(self):
        zeros = [(0, 1)] * 4
        good = (0, point(0, 0))
        tiny = Fraction(1, BIG)
        for wrong in [
            *wrong_things(), list(good), (0,), (0, point(0, 0), 0), (4, point(0, 0)), (-1, point(0, 0)),
            (True, point(0, 0)), (False, point(0, 0)), (DIGITS_40, point(0, 0)), ("0", point(0, 0)),
            (None, point(0, 0)), (0, list(point(0, 0))), (0, ((0, 1), (0, 2))), (0, ((0, 1), (0, True))), (0, None),
            (0, 0),
            (0, point(2, 0)), (0, point(-1, 0)), (0, point(Fraction(1, 2), -tiny)), (0, point(1 + tiny, 1)),
            (0, point(-tiny, Fraction(1, 2))), (1, point(1, 1)), (2, point(0, 1)), ([0], point(0, 0)), {0: point(0, 0)},
        ]:
            with self.assertRaises(NoSpot, msg=wrong):
                gap2(star(), zeros, wrong, good)
            with self.assertRaises(NoSpot, msg=wrong):
                gap2(star(), zeros, good, wrong)
            with self.assertRaises(NoSpot, msg=wrong):
                spot_at(star(), zeros, wrong)

    def test_just_on_the_sides(self):
        zeros = [(0, 1)] * 4
        for place in ((Fraction(1, 2), 0), (1, Fraction(1, 3)), (1, 1), (0, Fraction(1, 7)), (Fraction(1, 9), 1)):
            self.assertEqual(spot_at(star(), zeros, (0, point(*place))), plain((*place, 0)))

    def test_by_name_and_unchanged(self):
        zeros = [(0, 1)] * 4
        spot = (0, point(1, 1))
        self.assertEqual(gap2(other=(2, point(0, 0)), one=spot, numbers=zeros, sheet=star()), (2, 1))
        self.assertEqual(spot_at(spot=spot, numbers=zeros, sheet=star()), plain((1, 1, 0)))
        unchanged(self, gap2, star(), zeros, spot, spot)
        unchanged(self, spot_at, star(), zeros, spot)


if __name__ == "__main__":
    unittest.main()
