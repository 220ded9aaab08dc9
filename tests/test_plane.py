"""[1.2] and [1.3] Points and plates of points."""
import unittest
from fractions import Fraction

from fourcreases.errors import NoPlate, NoPoint
from fourcreases.plane import is_plate, length_of, lie_over, turn_of
from tests.makers import pair, point, points, spin
from tests.things import unchanged, wrong_things

BIG = 10 ** 39 + 1
TRIANGLE = points((0, 0), (4, 0), (0, 3))
SQUARE = points((0, 0), (1, 0), (1, 1), (0, 1))


def doubled(t):
    """The tangent of twice the angle of a tangent."""
    return 2 * t / (1 - t * t)


def on_circle(many):
    """So many points of a circle, counterclockwise, whose distances are fractions."""
    tangents = [
        Fraction(-3), Fraction(-7, 5), Fraction(-1, 2), Fraction(-1, 5), Fraction(1, 7), Fraction(1, 2),
        Fraction(4, 5), Fraction(5, 4), Fraction(9, 4),
    ]
    ring = [spin(doubled(t)) for t in tangents]
    return points(*sorted(ring[:many], key=angle_key))


def angle_key(place):
    x, y = place
    return (0, -x) if y >= 0 else (1, x)


class LengthTest(unittest.TestCase):
    def test_fractions(self):
        self.assertEqual(length_of(point(0, 0), point(3, 4)), (5, 1))
        self.assertEqual(length_of(point(3, 4), point(0, 0)), (5, 1))
        self.assertEqual(length_of(point(Fraction(1, 2), 0), point(Fraction(1, 3), 0)), (1, 6))
        self.assertEqual(length_of(point(-1, -1), point(Fraction(1, 2), 1)), (5, 2))
        self.assertEqual(length_of(point(7, 7), point(7, 7)), (0, 1))

    def test_no_fractions(self):
        self.assertIsNone(length_of(point(0, 0), point(1, 1)))
        self.assertIsNone(length_of(point(0, 0), point(Fraction(1, 2), Fraction(1, 3))))
        self.assertIsNone(length_of(point(0, 0), point(1, 2)))

    def test_forty_digits(self):
        self.assertEqual(length_of(point(0, 0), point(3 * BIG, 4 * BIG)), (5 * BIG, 1))
        self.assertEqual(length_of(point(0, 0), point(Fraction(3, BIG), Fraction(4, BIG))), (5, BIG))
        self.assertIsNone(length_of(point(0, 0), point(3 * BIG, 4 * BIG + 1)))

    def test_wrong(self):
        for wrong in wrong_things():
            for one, other in ((wrong, point(0, 0)), (point(0, 0), wrong), (wrong, wrong)):
                with self.assertRaises(NoPoint, msg=wrong):
                    length_of(one, other)

    def test_by_name(self):
        self.assertEqual(length_of(other=point(0, 1), one=point(0, 0)), (1, 1))


class TurnTest(unittest.TestCase):
    def test_sides(self):
        a, b = point(0, 0), point(2, 1)
        self.assertEqual(turn_of(a, b, point(0, 1)), 1)
        self.assertEqual(turn_of(a, b, point(1, 0)), -1)
        self.assertEqual(turn_of(b, a, point(0, 1)), -1)
        self.assertEqual(turn_of(b, a, point(1, 0)), 1)

    def test_on_the_line(self):
        a, b = point(0, 0), point(2, 1)
        for place in ((4, 2), (-2, -1), (1, Fraction(1, 2)), (0, 0), (2, 1)):
            self.assertEqual(turn_of(a, b, point(*place)), 0)

    def test_equal_points(self):
        self.assertEqual(turn_of(point(1, 1), point(1, 1), point(3, 4)), 0)
        self.assertEqual(turn_of(point(1, 1), point(3, 4), point(1, 1)), 0)
        self.assertEqual(turn_of(point(3, 4), point(1, 1), point(1, 1)), 0)

    def test_forty_digits(self):
        a, b = point(0, 0), point(Fraction(BIG, BIG - 2), Fraction(BIG - 1, BIG))
        x, y = Fraction(BIG, BIG - 2) * 2, Fraction(BIG - 1, BIG) * 2
        self.assertEqual(turn_of(a, b, point(x, y)), 0)
        self.assertEqual(turn_of(a, b, point(x, y + Fraction(1, BIG))), 1)
        self.assertEqual(turn_of(a, b, point(x, y - Fraction(1, BIG))), -1)

    def test_a_number_no_flag(self):
        self.assertIs(type(turn_of(*TRIANGLE)), int)

    def test_wrong(self):
        good = point(0, 0)
        for wrong in wrong_things():
            for three in ((wrong, good, good), (good, wrong, good), (good, good, wrong)):
                with self.assertRaises(NoPoint, msg=wrong):
                    turn_of(*three)

    def test_by_name(self):
        self.assertEqual(turn_of(third=point(0, 3), other=point(4, 0), one=point(0, 0)), 1)


class PlateTest(unittest.TestCase):
    def test_plates(self):
        for row in (TRIANGLE, SQUARE, points((0, 0), (4, 0), (4, 3), (2, Fraction(9, 2)), (0, 3))):
            self.assertIs(is_plate(row), True)
            self.assertIs(is_plate(tuple(row)), True)
            self.assertIs(is_plate(row[1:] + row[:1]), True)

    def test_numbers_of_points(self):
        for many in range(3, 9):
            self.assertIs(is_plate(on_circle(many)), True, many)
        self.assertIs(is_plate(on_circle(9)), False)
        self.assertIs(is_plate(TRIANGLE[:2]), False)
        self.assertIs(is_plate(TRIANGLE[:1]), False)

    def test_clockwise(self):
        for row in (TRIANGLE, SQUARE, on_circle(8)):
            self.assertIs(is_plate(row[::-1]), False)

    def test_three_points_in_a_line(self):
        self.assertIs(is_plate(points((0, 0), (2, 0), (4, 0), (0, 3))), False)
        self.assertIs(is_plate(points((0, 0), (1, 0), (2, 0))), False)
        self.assertIs(is_plate(points((0, 0), (4, 0), (0, 3), (0, 1))), False)

    def test_not_convex(self):
        self.assertIs(is_plate(points((0, 0), (8, 0), (8, 6), (4, 3), (0, 6))), False)
        self.assertIs(is_plate(points((0, 0), (8, 0), (4, 3), (8, 6), (0, 6))), False)

    def test_goes_round_more_than_once(self):
        self.assertIs(is_plate(TRIANGLE * 2), False)
        ring = on_circle(5)
        self.assertIs(is_plate([ring[0], ring[2], ring[4], ring[1], ring[3]]), False)
        self.assertIs(is_plate(SQUARE + SQUARE), False)
        self.assertIs(is_plate([SQUARE[0], SQUARE[0], SQUARE[1], SQUARE[2]]), False)

    def test_crossing_itself(self):
        self.assertIs(is_plate([SQUARE[0], SQUARE[2], SQUARE[1], SQUARE[3]]), False)

    def test_side_that_is_no_fraction(self):
        self.assertIs(is_plate(points((0, 0), (1, 0), (0, 1))), False)
        self.assertIs(is_plate(points((0, 0), (4, 0), (4, 3), (1, 4))), False)
        self.assertIs(is_plate(points((0, 1), (0, 0), (1, 0))), False)

    def test_wrong(self):
        for wrong in wrong_things():
            self.assertIs(is_plate(wrong), False, wrong)
            self.assertIs(is_plate([*TRIANGLE[:2], wrong]), False, wrong)
        self.assertIs(is_plate({at: place for at, place in enumerate(TRIANGLE)}), False)
        self.assertIs(is_plate([list(place) for place in TRIANGLE]), False)
        self.assertIs(is_plate([*TRIANGLE[:2], ((0, 1), (3, True))]), False)
        self.assertIs(is_plate([*TRIANGLE[:2], ((0, 2), (3, 1))]), False)

    def test_by_name_and_unchanged(self):
        self.assertIs(is_plate(thing=TRIANGLE), True)
        self.assertIs(unchanged(self, is_plate, list(TRIANGLE)), True)


class LieOverTest(unittest.TestCase):
    def check(self, one, other, wanted):
        for k in range(len(one)):
            self.assertIs(lie_over(one[k:] + one[:k], other), wanted)
            self.assertIs(lie_over(other, tuple(one[k:] + one[:k])), wanted)

    def moved(self, row, x, y):
        return [(pair(Fraction(*a) + x), pair(Fraction(*b) + y)) for a, b in row]

    def test_over(self):
        self.check(SQUARE, SQUARE, True)
        self.check(SQUARE, self.moved(SQUARE, Fraction(1, 2), Fraction(1, 2)), True)
        self.check(SQUARE, self.moved(SQUARE, Fraction(1, 2), 0), True)
        self.check(SQUARE, TRIANGLE, True)
        self.check(SQUARE, self.moved(SQUARE, Fraction(BIG - 1, BIG), Fraction(BIG - 1, BIG)), True)

    def test_corners_of_neither_within_the_other(self):
        self.check(points((-3, 0), (3, 0), (3, 1), (-3, 1)), points((0, -3), (1, -3), (1, 3), (0, 3)), True)

    def test_one_in_the_other(self):
        self.check(points((-9, -9), (9, -9), (9, 9), (-9, 9)), SQUARE, True)
        self.check(points((0, 0), (9, 0), (9, 9), (0, 9)), SQUARE, True)

    def test_common_side(self):
        self.check(SQUARE, self.moved(SQUARE, 1, 0), False)
        self.check(SQUARE, self.moved(SQUARE, 0, -1), False)

    def test_part_of_a_side(self):
        self.check(SQUARE, self.moved(SQUARE, 1, Fraction(1, 2)), False)
        self.check(SQUARE, points((1, -1), (3, -1), (3, 4), (1, 4)), False)

    def test_one_common_point(self):
        self.check(SQUARE, self.moved(SQUARE, 1, 1), False)
        self.check(SQUARE, points((1, Fraction(1, 2)), (5, Fraction(-5, 2)), (5, Fraction(7, 2))), False)

    def test_apart(self):
        self.check(SQUARE, self.moved(SQUARE, 2, 0), False)
        self.check(SQUARE, self.moved(SQUARE, 1 + Fraction(1, BIG), 0), False)
        self.check(TRIANGLE, self.moved(SQUARE, 3, 2), False)

    def test_parted_by_a_side_of_the_second_alone(self):
        self.check(SQUARE, points((4, -1), (4, 2), (0, 2)), False)

    def test_wrong(self):
        for wrong in wrong_things() + [SQUARE[::-1], points((0, 0), (1, 0), (0, 1))]:
            for one, other in ((wrong, SQUARE), (SQUARE, wrong), (wrong, wrong)):
                with self.assertRaises(NoPlate, msg=wrong):
                    lie_over(one, other)

    def test_by_name_and_unchanged(self):
        self.assertIs(lie_over(other=SQUARE, one=TRIANGLE), True)
        self.assertIs(unchanged(self, lie_over, list(SQUARE), list(TRIANGLE)), True)


if __name__ == "__main__":
    unittest.main()
