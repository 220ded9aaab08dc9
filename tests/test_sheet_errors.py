"""[2.1] What Sheet takes, and the errors that it raises."""
import unittest
from fractions import Fraction

from fourcreases.errors import BadCorners, BadPlates, BadSheet, TooMany
from fourcreases.sheets import Sheet
from tests.makers import grid, grid_parts, ladder, net_ways, point, points, rhombs, star
from tests.things import nested, unchanged, wrong_things

BIG = 10 ** 39 + 1
PLACES = [(0, 0), (4, 0), (4, 3), (0, 3)]
PLATES = [(0, 1, 2), (0, 2, 3)]


def faults(corners, plates):
    """The error that Sheet raises, as a tuple, or None."""
    try:
        Sheet(corners, plates)
    except BadCorners as error:
        return ("corners", error.at)
    except BadPlates as error:
        return ("plates", error.at)
    except BadSheet as error:
        return (error.word, error.at)
    except TooMany as error:
        return ("many", error.most)
    return None


def squares(*starts):
    """Unit squares at some places, with common corners where points are equal."""
    corners, plates = [], []
    for x, y in starts:
        plate = []
        for place in ((x, y), (x + 1, y), (x + 1, y + 1), (x, y + 1)):
            if point(*place) not in corners:
                corners.append(point(*place))
            plate.append(corners.index(point(*place)))
        plates.append(tuple(plate))
    return corners, plates


def turned_round(corners, plates, first):
    """The same sheet with another corner as number 0."""
    many = len(corners)
    return corners[first:] + corners[:first], [[(k - first) % many for k in plate] for plate in plates]


def fan(ways, lift=0):
    """Parallelograms round the corner (0, lift), between vectors of it."""
    many = len(ways)
    places = [(0, 0), *ways]
    places += [(ways[k][0] + ways[(k + 1) % many][0], ways[k][1] + ways[(k + 1) % many][1]) for k in range(many)]
    corners = points(*[(x, y + lift) for x, y in places])
    return corners, [(0, k + 1, k + 1 + many, (k + 1) % many + 1) for k in range(many)]


def merged(*parts):
    """The corners and plates of several, with common corners where points are equal."""
    corners, plates = [], []
    for more, others in parts:
        corners += [place for place in more if place not in corners]
        plates += [tuple(corners.index(more[k]) for k in plate) for plate in others]
    return corners, plates


THREE = [(1, 0), (Fraction(-3, 5), Fraction(4, 5)), (Fraction(-3, 5), Fraction(-4, 5))]
FIVE = [(1, 0), (0, 1), (Fraction(-3, 5), Fraction(4, 5)), (-1, 0), (0, -1)]
UNLIKE = [(1, 0), (0, 1), (-1, 0), (Fraction(-3, 5), Fraction(-4, 5))]


class CornersTest(unittest.TestCase):
    def test_no_row(self):
        for wrong in (None, True, 3, "abc", {}, {0: point(0, 0)}, star(), BadCorners(1)):
            self.assertEqual(faults(wrong, PLATES), ("corners", -1))

    def test_how_many(self):
        self.assertEqual(faults([], PLATES), ("corners", -1))
        self.assertEqual(faults(points((0, 0), (4, 0)), PLATES), ("corners", -1))
        self.assertEqual(faults([None, None], PLATES), ("corners", -1))
        self.assertIsNone(faults(points((0, 0), (4, 0), (0, 3)), [(0, 1, 2)]))
        self.assertIsNone(faults(*grid_parts(29, 1, point)))
        many = [point(k, k * k) for k in range(61)]
        self.assertEqual(faults(many, PLATES), ("corners", -1))
        self.assertEqual(faults([None] * 61, PLATES), ("corners", -1))
        self.assertEqual(faults([None] * 60, PLATES), ("corners", 0))

    def test_no_point(self):
        for wrong in wrong_things():
            for at in range(4):
                corners = points(*PLACES)
                corners[at] = wrong
                self.assertEqual(faults(corners, PLATES), ("corners", at), wrong)

    def test_nearly_points(self):
        for wrong in (
            [(4, 1), (3, 1)], ([4, 1], (3, 1)), ((4, 1), [3, 1]), ((4, 1), (3, True)), ((True, 1), (3, 1)),
            ((8, 2), (3, 1)), ((4, 1), (-3, -1)), ((4, 1), (3, 0)), ((4, 1), (0, 3)), ((4, 1), (3, 1), (0, 1)),
            ((4, 1),), ((4, 1), 3), ((4, 1), (3, "1")), nested(30),
        ):
            self.assertEqual(faults([*points(*PLACES[:2]), wrong, *points(*PLACES[3:])], PLATES), ("corners", 2))

    def test_equal_ones(self):
        self.assertEqual(faults(points((0, 0), (0, 0), (4, 3), (0, 3)), PLATES), ("corners", 1))
        self.assertEqual(faults(points(*PLACES, (0, 3)), PLATES), ("corners", 4))
        self.assertEqual(faults(points(*PLACES, (4, 0), (0, 0)), PLATES), ("corners", 4))
        self.assertEqual(faults([*points(*PLACES, (4, 0)), None], PLATES), ("corners", 4))
        self.assertEqual(faults([*points(*PLACES), None, point(4, 0)], PLATES), ("corners", 4))


class PlatesTest(unittest.TestCase):
    def test_no_row(self):
        for wrong in (None, False, 1, "", "abc", {}, {0: (0, 1, 2)}, star(), BadPlates(0)):
            self.assertEqual(faults(points(*PLACES), wrong), ("plates", -1))

    def test_how_many(self):
        self.assertEqual(faults(points(*PLACES), []), ("plates", -1))
        self.assertIsNone(faults(points((0, 0), (4, 0), (0, 3)), ((0, 1, 2),)))
        self.assertEqual(len(ladder(40).plates), 40)
        with self.assertRaises(BadPlates) as caught:
            ladder(41)
        self.assertEqual(caught.exception.at, -1)
        self.assertEqual(faults(points(*PLACES), [None] * 41), ("plates", -1))
        self.assertEqual(faults(points(*PLACES), [None] * 40), ("plates", 0))

    def test_wrong_ones(self):
        for wrong in wrong_things():
            if wrong == (1, 2, 3):
                continue
            for at in range(2):
                plates = list(PLATES)
                plates[at] = wrong
                self.assertEqual(faults(points(*PLACES), plates), ("plates", at), wrong)

    def test_nearly_plates(self):
        for wrong in (
            (0, 3, 2), (0, 2, 4), (0, 2, -1), (-4, 2, 3), (False, 2, 3), (0, 2, True), (0, 2), (0, 2, 3, 3),
            (0, 2, 2), (0, 2, "3"), (0, 2, None), {0: 0, 1: 2, 2: 3}, "023", (0, 2, (3,)), (0, 2, 3, 0, 2, 3),
            (0, 1, 2, 3, 0, 1, 2, 3, 0), [], [0] * 700,
        ):
            self.assertEqual(faults(points(*PLACES), [(0, 1, 2), wrong]), ("plates", 1), wrong)

    def test_side_that_is_no_fraction(self):
        corners = points((0, 0), (1, 0), (0, 1), (1, 1))
        self.assertEqual(faults(corners, [(0, 1, 3, 2), (0, 1, 2)]), ("plates", 1))

    def test_lists_do(self):
        self.assertIsNone(faults(points(*PLACES), [[0, 1, 2], [0, 2, 3]]))
        self.assertIsNone(faults(tuple(points(*PLACES)), (tuple(PLATES[0]), tuple(PLATES[1]))))

    def test_eight_and_nine_corners(self):
        places = [(0, 0), (4, -3), (10, -3), (14, 0), (14, 5), (10, 8), (4, 8), (0, 5)]
        self.assertIsNone(faults(points(*places), [list(range(8))]))
        more = places[:2] + [(7, -4)] + places[2:]
        self.assertEqual(faults(points(*more), [list(range(9))]), ("plates", 0))


class LyingTest(unittest.TestCase):
    def test_over(self):
        self.assertEqual(faults(points(*PLACES), [(0, 1, 2), (0, 1, 2, 3)]), ("over", 1))
        self.assertEqual(faults(points(*PLACES), [(0, 1, 2), (0, 1, 2)]), ("over", 1))
        self.assertEqual(faults(points(*PLACES), [(0, 1, 2), (2, 0, 1)]), ("over", 1))
        half = Fraction(1, 2)
        self.assertEqual(faults(*squares((0, 0), (1, 0), (2, 0), (half, 0))), ("over", 3))
        self.assertEqual(faults(*squares((0, 0), (half, half), (1, 0), (0, 0))), ("over", 1))
        self.assertEqual(faults(*squares((0, 0), (1, 0), (2, 0), (2, half))), ("over", 3))
        self.assertEqual(faults(*squares((0, 0), (1, 0), (2, 0), (3, 0), (half, half), (0, 0))), ("over", 4))

    def test_loose(self):
        self.assertEqual(faults(points(*PLACES, (9, 9)), PLATES), ("loose", 4))
        self.assertEqual(faults(points(*PLACES, (9, 9), (8, 8)), PLATES), ("loose", 4))
        corners, plates = turned_round(points(*PLACES, (9, 9)), PLATES, 4)
        self.assertEqual(faults(corners, plates), ("loose", 0))
        self.assertEqual(faults(points(*PLACES, (2, 1)), PLATES), ("loose", 4))
        self.assertEqual(faults(points(*PLACES, (2, 0)), PLATES), ("loose", 4))

    def test_touch(self):
        corners, plates = squares((0, 0), (1, 0))
        corners += points((0, -1), (2, -1))
        low = (len(corners) - 2, len(corners) - 1, corners.index(point(2, 0)), corners.index(point(0, 0)))
        self.assertEqual(faults(corners, [*plates, low]), ("touch", corners.index(point(1, 0))))
        self.assertEqual(faults(*squares((0, 0), (1, Fraction(1, 2)))), ("touch", 2))
        self.assertEqual(faults(*squares((0, 0), (1, Fraction(-1, 2)))), ("touch", 1))
        corners, plates = squares((0, 0), (0, 3), (1, Fraction(7, 2)))
        at = min(corners.index(point(1, 4)), corners.index(point(1, Fraction(7, 2))))
        self.assertEqual(faults(corners, plates), ("touch", at))

    def test_touch_of_plates_apart(self):
        tip = points((1, Fraction(1, 2)), (5, Fraction(-5, 2)), (5, Fraction(7, 2)))
        self.assertEqual(faults(*merged(squares((0, 0)), (tip, [(0, 1, 2)]))), ("touch", 4))

    def test_rim(self):
        self.assertEqual(faults(*squares((0, 0), (1, 1))), ("rim", 2))
        self.assertEqual(faults(*squares((1, 1), (0, 0))), ("rim", 0))
        corners, plates = squares((0, 0), (1, 0), (1, 1), (0, 2))
        self.assertEqual(faults(corners, plates), ("rim", corners.index(point(1, 2))))

    def test_rim_where_plates_hang_together(self):
        ring = squares((0, 0), (1, 0), (2, 0), (2, 1), (2, 2), (1, 2), (0, 1))
        self.assertEqual(faults(*ring), ("rim", ring[0].index(point(1, 2))))

    def test_apart(self):
        self.assertEqual(faults(*squares((0, 0), (2, 0))), ("apart", 1))
        self.assertEqual(faults(*squares((0, 0), (1, 0), (1, 1), (5, 0))), ("apart", 3))
        self.assertEqual(faults(*squares((0, 0), (3, 0), (1, 0), (4, 0))), ("apart", 1))
        self.assertEqual(faults(*squares((0, 0), (2, 0), (1, 0))), None)

    def test_hole(self):
        ring = squares((0, 0), (1, 0), (2, 0), (2, 1), (2, 2), (1, 2), (0, 2), (0, 1))
        hole = [ring[0].index(point(x, y)) for x, y in ((1, 1), (2, 1), (2, 2), (1, 2))]
        self.assertEqual(faults(*ring), ("hole", min(hole)))
        # With a corner of the hole as number 0 it is the outer ring that is off.
        many = len(ring[0])
        outer = [(k - min(hole)) % many for k in range(many) if k not in hole]
        self.assertEqual(faults(*turned_round(*ring, min(hole))), ("hole", min(outer)))

    def test_four(self):
        self.assertEqual(faults(*fan(THREE)), ("four", 0))
        self.assertEqual(faults(*fan(FIVE)), ("four", 0))
        self.assertEqual(faults(*turned_round(*fan(THREE), 1)), ("four", 6))

    def test_half(self):
        self.assertEqual(faults(*fan(UNLIKE)), ("half", 0))
        self.assertEqual(faults(*turned_round(*fan(UNLIKE), 1)), ("half", 8))
        self.assertIsNone(faults(*fan([(1, 0), (0, 1), (-1, 0), (0, -1)])))

    def test_nearly_half(self):
        near = Fraction(BIG, BIG - 1)
        ways = net_ways([[(Fraction(1), near)]])[0][0]
        self.assertIsNone(faults(*fan(ways)))
        t = Fraction(1, 10 ** 15)
        off = ((1 - t * t) / (1 + t * t), 2 * t / (1 + t * t))
        self.assertEqual(faults(*fan([off, (0, 1), (-1, 0), (0, -1)])), ("half", 0))

    def test_too_many(self):
        self.assertEqual(len(grid(10, 2).inner), 9)
        self.assertEqual(faults(*grid_parts(11, 2, point)), ("many", 9))
        self.assertEqual(len(rhombs(9).inner), 9)
        with self.assertRaises(TooMany):
            rhombs(10)


class PairsOfFaultsTest(unittest.TestCase):
    def test_corners_ahead_of_plates(self):
        self.assertEqual(faults(None, None), ("corners", -1))
        self.assertEqual(faults([*points(*PLACES[:3]), None], None), ("corners", 3))

    def test_plates_ahead_of_over(self):
        self.assertEqual(faults(points(*PLACES), [(0, 1, 2), (0, 1, 2), None]), ("plates", 2))

    def test_over_ahead_of_loose(self):
        self.assertEqual(faults(points(*PLACES, (9, 9)), [*PLATES, (0, 1, 2)]), ("over", 2))

    def test_loose_ahead_of_touch(self):
        corners, plates = squares((0, 0), (1, Fraction(1, 2)))
        self.assertEqual(faults([*corners, point(9, 9)], plates), ("loose", len(corners)))

    def test_touch_ahead_of_rim(self):
        half = Fraction(1, 2)
        corners, plates = squares((0, 0), (1, 1), (2, Fraction(3, 2)))
        self.assertEqual(faults(corners, plates), ("touch", corners.index(point(2, 2))))
        self.assertEqual(faults(*squares((0, 0), (1, 1), (-1, half))), ("touch", 3))

    def test_rim_ahead_of_apart(self):
        corners, plates = squares((0, 0), (5, 0), (6, 1))
        self.assertEqual(faults(corners, plates), ("rim", corners.index(point(6, 1))))

    def test_apart_ahead_of_hole(self):
        ring = squares((0, 0), (1, 0), (2, 0), (2, 1), (2, 2), (1, 2), (0, 2), (0, 1), (7, 7))
        self.assertEqual(faults(*ring), ("apart", 8))

    def test_hole_ahead_of_four(self):
        # Of 4 by 4 plates one has a diagonal more, one is missing within.
        corners, plates = grid_parts(4, 4, lambda x, y: point(4 * x, 3 * y))
        plates.remove((13, 14, 19, 18))
        more = [*plates, (13, 14, 19), (13, 19, 18)]
        self.assertEqual(faults(corners, more), ("four", 13))
        more.remove((6, 7, 12, 11))
        self.assertEqual(faults(corners, more), ("hole", 6))

    def test_hole_ahead_of_half(self):
        corners, plates = grid_parts(4, 4, bent(3))
        self.assertEqual(faults(corners, plates), ("half", 8))
        plates.remove((11, 12, 17, 16))
        self.assertEqual(faults(corners, plates), ("hole", 11))

    def test_four_ahead_of_half(self):
        below = fan(THREE, Fraction(-8, 5))
        self.assertEqual(faults(*merged(fan(UNLIKE), below)), ("four", 9))
        self.assertEqual(faults(*merged(below, fan(UNLIKE))), ("four", 0))
        chain = merged(fan(THREE), fan(FIVE, 10))
        self.assertEqual(faults(*chain), ("apart", 3))

    def test_half_ahead_of_too_many(self):
        self.assertEqual(faults(*grid_parts(11, 2, point)), ("many", 9))
        self.assertEqual(faults(*grid_parts(11, 2, bent(6))), ("half", 12 + 6))


def bent(first):
    """The points of a net whose columns, from the first one told, lean in their lowest row alone."""
    return lambda x, y: point(4 * x + (3 if y == 0 and x >= first else 0), 4 * y)


class CopiesTest(unittest.TestCase):
    def test_arguments_stay_and_are_copied(self):
        corners, plates = points(*PLACES), [list(plate) for plate in PLATES]
        sheet = unchanged(self, Sheet, corners, plates)
        corners[0] = None
        corners.append(7)
        plates[0][0] = 3
        plates.pop()
        self.assertEqual(sheet.corners, tuple(points(*PLACES)))
        self.assertEqual(sheet.plates, tuple(PLATES))
        self.assertEqual(sheet, Sheet(points(*PLACES), PLATES))

    def test_by_name(self):
        self.assertEqual(Sheet(plates=PLATES, corners=points(*PLACES)), Sheet(points(*PLACES), PLATES))


if __name__ == "__main__":
    unittest.main()
