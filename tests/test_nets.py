"""[13.5] Nets as sheets."""
import unittest
from fractions import Fraction
from itertools import product
from random import Random

from fourcreases.corners import corner_tangents
from fourcreases.errors import BadLengths, BadNumber, BadPlates, BadSheet, BadTable
from fourcreases.lengths import lengths_for
from fourcreases.motions import bar_of
from fourcreases.nets import sheet_of
from tests.makers import net_ways, outer, pair, step, worth
from tests.tables import few_of, fitting_table, grow, known_table, told_table
from tests.test_tables import ONE, OTHER, SQUARES, as_lists, wrong_tables
from tests.things import unchanged, wrong_things

SIZES = ((2, 2), (2, 3), (3, 2), (3, 3), (2, 4), (4, 2))
SQUARE_LENGTHS = ([[(1, 1)]] * 2, [[(1, 1)] * 2])


def grown_table(random, columns, rows):
    """A table that grew, and its wish."""
    while True:
        row = [(few_of(random), few_of(random)) for _ in range(columns)]
        column = [row[0]] + [(few_of(random), few_of(random)) for _ in range(rows - 1)]
        wish = [[random.choice((1, 2)) for _ in range(columns)] for _ in range(rows)]
        table = grow(row, column, wish)
        if not isinstance(table, tuple):
            return told_table(table), wish


def laid(table, depth=(1, 1)):
    """The sheet of a table with the lengths that the package finds, None if they make none."""
    lengths = lengths_for(table)
    if lengths is None:
        return None
    try:
        return sheet_of(table, *lengths, depth)
    except (BadPlates, BadSheet):
        return None


def spot(sheet, corner):
    return tuple(map(worth, sheet.corners[corner]))


def minus(one, other):
    return (one[0] - other[0], one[1] - other[1])


def edges_of(columns, rows):
    """The edges in the south, east, north and west, each from its first corner on, with the place of the way in `around`."""
    return [
        ([(i, 0) for i in range(columns)], 3), ([(columns - 1, j) for j in range(rows)], 0),
        ([(i, rows - 1) for i in range(columns)], 1), ([(0, j) for j in range(rows)], 2),
    ]


class PlacesTest(unittest.TestCase):
    def check(self, table, lengths, sheet, depth):
        """Check a sheet against all that the document tells of it."""
        rows, columns = len(table), len(table[0])
        (across, up), known = lengths, known_table(table)
        ways = net_ways(known)
        self.assertEqual(sheet.inner, tuple(range(columns * rows)))
        self.assertEqual(sheet.corners[0], ((0, 1), (0, 1)))
        for i, j in product(range(columns), range(rows)):
            here = spot(sheet, i + columns * j)
            if i + 1 < columns:
                self.assertEqual(spot(sheet, i + 1 + columns * j), step(here, ways[j][i][0], worth(across[j][i])))
            if j + 1 < rows:
                self.assertEqual(spot(sheet, i + columns * (j + 1)), step(here, ways[j][i][1], worth(up[j][i])))
        self.assertGreater(spot(sheet, 1)[0], 0)
        self.assertEqual(spot(sheet, 1)[1], 0)
        self.check_angles(table, sheet)
        cells = [
            {i + columns * j, i + 1 + columns * j, i + columns * (j + 1), i + 1 + columns * (j + 1)}
            for i in range(columns - 1) for j in range(rows - 1)
        ]
        plates = [set(plate) for plate in sheet.plates]
        self.assertEqual(sorted(map(sorted, cells)), sorted(sorted(p) for p in plates if p <= set(sheet.inner)))
        self.assertEqual(len(plates), len(cells) + 2 * (columns + rows - 2) + 4)
        self.assertEqual({len(plate) for plate in plates}, {4})
        for edge in edges_of(columns, rows):
            self.check_edge(sheet, columns, edge, ways, depth)
        self.check_ends(sheet, columns, rows)

    def check_angles(self, table, sheet):
        """The angles at each corner are those of the table, from its east on."""
        columns = len(table[0])
        for corner in sheet.inner:
            u, v = map(worth, table[corner // columns][corner % columns])
            first = sheet.around(corner)[0]
            other = sum(first) - corner
            # Each next angle but one makes a half turn with the one told.
            round_it = [(u, v), (v, 1 / u), (1 / u, 1 / v), (1 / v, u)]
            turn = {corner + 1: 0, corner + columns: 1, corner - 1: 2, corner - columns: 3}
            place = turn[other] if other in turn and other in sheet.inner else None
            if place is not None:
                self.assertEqual(tuple(map(worth, corner_tangents(sheet, corner))), round_it[place])

    def check_edge(self, sheet, columns, edge, ways, depth):
        row, way = edge
        for at, (one, other) in enumerate(zip(row, row[1:])):
            a, b = [i + columns * j for i, j in (one, other)]
            plate = [p for p in sheet.plates if a in p and b in p and not set(p) <= set(sheet.inner)]
            self.assertEqual(len(plate), 1)
            others = [corner for corner in plate[0] if corner not in (a, b)]
            side = minus(spot(sheet, b), spot(sheet, a))
            self.assertEqual(outer(side, minus(spot(sheet, others[0]), spot(sheet, others[1]))), 0)
            for corner, (i, j) in ((a, one), (b, other)):
                # The crease beyond leads along the way of the table.
                ends = [sum(c) - corner for c in sheet.around(corner) if sum(c) - corner in others]
                self.assertEqual(len(ends), 1)
                beyond = minus(spot(sheet, ends[0]), spot(sheet, corner))
                lead = ways[j][i][way]
                self.assertEqual(outer(beyond, lead), 0)
                self.assertGreater(beyond[0] * lead[0] + beyond[1] * lead[1], 0)
            if at == 0:
                away = outer(side, minus(spot(sheet, others[0]), spot(sheet, a)))
                self.assertEqual(away ** 2, worth(depth) ** 2 * (side[0] ** 2 + side[1] ** 2))

    def check_ends(self, sheet, columns, rows):
        inner = set(sheet.inner)
        for corner in (0, columns - 1, columns * (rows - 1), columns * rows - 1):
            plates = [p for p in sheet.plates if corner in p and set(p) & inner == {corner}]
            self.assertEqual(len(plates), 1)
            a, b, c, d = [spot(sheet, k) for k in plates[0]]
            self.assertEqual(minus(b, a), minus(c, d))
            self.assertEqual(minus(c, b), minus(d, a))

    def test_random_tables(self):
        random = Random(1)
        many = 0
        for columns, rows in SIZES * 12:
            table = told_table(fitting_table(random, columns, rows, few_of))
            depth = random.choice(((1, 1), (1, 3), (1, 20)))
            sheet = laid(table, depth)
            if sheet is not None:
                self.check(table, lengths_for(table), sheet, depth)
                many += 1
        self.assertGreater(many, 20)

    def test_squares(self):
        sheet = unchanged(self, sheet_of, as_lists(SQUARES), [[(2, 1)], [(2, 1)]], ([(3, 1), (3, 1)],), (1, 2))
        half = Fraction(1, 2)
        wanted = {(x, y) for x in (-half, 0, 2, 2 + half) for y in (-half, 0, 3, 3 + half)}
        self.assertEqual({spot(sheet, k) for k in range(16)}, wanted)
        self.assertEqual([spot(sheet, k) for k in range(4)], [(0, 0), (2, 0), (0, 3), (2, 3)])
        self.assertEqual(len(sheet.plates), 9)
        named = sheet_of(depth=(1, 2), up=[[(3, 1)] * 2], across=[[(2, 1)]] * 2, table=SQUARES)
        self.assertEqual(named, sheet)

    def test_unlike_lengths(self):
        table = [[ONE] * 3] * 3
        lengths = [[(1, 1), (3, 1)]] * 3, [[(2, 1)] * 3, [(1, 2)] * 3]
        self.check(table, lengths, sheet_of(table, *lengths, (1, 4)), (1, 4))
        table = [[ONE] * 2] * 4
        lengths = [[(1, 3)]] * 4, [[(k, 1)] * 2 for k in (3, 1, 2)]
        sheet = sheet_of(table, *lengths, (5, 1))
        self.check(table, lengths, sheet, (5, 1))
        self.assertEqual(spot(sheet, 7), (Fraction(1, 3), 6))

    def test_depth_goes_on_from_plate_to_plate(self):
        random = Random(2)
        seen = False
        while not seen:
            table = told_table(fitting_table(random, 3, 2, few_of))
            sheet = laid(table, (1, 9))
            if sheet is None:
                continue
            self.check(table, lengths_for(table), sheet, (1, 9))
            a, b = 1, 2
            plate = [p for p in sheet.plates if a in p and b in p and not set(p) <= set(sheet.inner)][0]
            end = [corner for corner in plate if corner not in sheet.inner][0]
            side = minus(spot(sheet, b), spot(sheet, a))
            far = outer(side, minus(spot(sheet, end), spot(sheet, a))) ** 2 / (side[0] ** 2 + side[1] ** 2)
            seen = far != Fraction(1, 81)

    def test_folds_against_the_wish(self):
        random = Random(3)
        many = 0
        while many < 12:
            columns, rows = random.choice(SIZES)
            table, wish = grown_table(random, columns, rows)
            sheet = laid(table, (1, 5))
            if sheet is None:
                continue
            choice = []
            for corner in sheet.inner:
                other = sum(sheet.around(corner)[0]) - corner
                # The least crease leads to the west or east, or else to the south, if there is an inner corner there.
                flat = other in (corner - 1, corner + 1)
                pick = wish[corner // columns][corner % columns]
                choice.append(pick if flat else 3 - pick)
            self.assertIsNone(bar_of(sheet, choice))
            many += 1


class ErrorsTest(unittest.TestCase):
    def test_tables(self):
        row, column = [[ONE, ONE]], [[ONE], [ONE]]
        three = [[ONE] * 4] * 3
        unfit = [[OTHER, OTHER], [OTHER, ONE]]
        for table in [*wrong_tables(), row, column, [[ONE]], [[ONE] * 4] * 4, three, [[ONE] * 3] * 4, unfit]:
            self.assertRaises(BadTable, sheet_of, table, *SQUARE_LENGTHS, (1, 1))
            self.assertRaises(BadTable, sheet_of, table, None, None, None)
        for table in ([[ONE] * 4] * 2, [[ONE] * 2] * 4, [[ONE] * 3] * 3):
            across, up = lengths_for(table)
            self.assertEqual(len(sheet_of(table, across, up, (1, 1)).inner), len(table) * len(table[0]))

    def test_lengths(self):
        across, up = SQUARE_LENGTHS
        for thing in [*wrong_things(), across[:1], [[(1, 1)], [(2, 1)]], [[(0, 1)]] * 2, [[(-1, 1)]] * 2]:
            for depth in ((1, 1), None):
                with self.assertRaises(BadLengths):
                    sheet_of(SQUARES, thing, up, depth)
        for thing in [*wrong_things(), up * 2, [[(1, 1), (2, 1)]], [[(0, 1)] * 2], [[(1, 1)] * 3]]:
            self.assertRaises(BadLengths, sheet_of, SQUARES, across, thing, 0)

    def test_depth(self):
        for depth in [*wrong_things(), (0, 1), (-1, 1), (2, 2), [1, 1], (1, 1, 1)]:
            with self.assertRaises(BadNumber) as caught:
                sheet_of(SQUARES, *SQUARE_LENGTHS, depth)
            self.assertEqual(caught.exception.word, "depth")

    def test_plates_that_are_none(self):
        random = Random(4)
        seen = set()
        while len(seen) < 2:
            table = told_table(fitting_table(random, 2, 2, few_of))
            lengths = lengths_for(table)
            for depth in ((1, 100), (100, 1)):
                try:
                    sheet_of(table, *lengths, depth)
                    seen.add("sheet" if depth == (1, 100) else "great")
                except BadPlates:
                    seen.add("none")
                except BadSheet:
                    pass
            seen.discard("great")

    def test_scaled_lengths(self):
        random = Random(5)
        table = None
        while table is None or laid(table, (1, 9)) is None:
            table = told_table(fitting_table(random, 3, 3, few_of))
        lengths = lengths_for(table)
        long = tuple(tuple(tuple(pair(7 * worth(x)) for x in row) for row in rows) for rows in lengths)
        one, other = sheet_of(table, *lengths, (1, 9)), sheet_of(table, *long, (7, 9))
        self.assertEqual(one.plates, other.plates)
        for k in range(len(one.corners)):
            self.assertEqual(tuple(7 * x for x in spot(one, k)), spot(other, k))


if __name__ == "__main__":
    unittest.main()
