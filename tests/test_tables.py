"""[13.1] to [13.3] Tables that fit together, that fulfil a wish, and that grow."""
import unittest
from fractions import Fraction
from itertools import product
from random import Random

from fourcreases.errors import BadTable, BadWish
from fourcreases.tables import fits_together, fulfils, grown, grown_bar
from tests.tables import (
    fits_by_angles, fitting_table, fulfils_by_words, grow, long_number, random_number, told_table,
)
from tests.things import nested, unchanged, wrong_things

ONE = ((1, 1), (1, 1))
OTHER = ((1, 2), (2, 3))
SQUARES = ((ONE, ONE), (ONE, ONE))
SIZES = list(product((1, 2, 3, 4), repeat=2))


def as_lists(rows):
    return [list(row) for row in rows]


def random_wish(random, columns, rows):
    return [[random.choice((1, 2)) for _ in range(columns)] for _ in range(rows)]


def wrong_tables():
    long = [[ONE] * 4] * 4
    return [
        *wrong_things(), [[ONE], [ONE, ONE]], [[ONE, ONE], [ONE]], [], (), [[]], [[], []], [[ONE]] * 5, [[ONE] * 5],
        [*long, [ONE] * 4], [[*row, ONE] for row in long], [[ONE, [(1, 1), (1, 1)]]], [[ONE, ((1, 1),)]],
        [[ONE, ((1, 1), (1, 1), (1, 1))]], [[((0, 1), (1, 1))]], [[((1, 1), (0, 1))]], [[((-1, 2), (1, 1))]],
        [[((1, 1), (-1, 2))]], [[(1, 1)]], [[(1, 2), (3, 4)]], [[(True, False)]], [[((True, 1), (1, 1))]],
        [[((1, True), (1, 1))]], [[((2, 4), (1, 1))]], [[((1, 1), (3, 0))]], [[([1, 1], (1, 1))]], [[((1, 1), 1)]], [ONE],
        [{0: ONE}], [[{0: ONE}]], {0: [ONE]}, [[ONE], None], [None, [ONE]], [[ONE], 3], "table", [["ab"]], nested(4),
    ]


def wrong_wishes():
    return [
        *wrong_things(), [[1, 2], [2]], [[1, 2], [2, 3]], [[0, 1], [1, 1]], [[1, True], [1, 1]], [[1, 1], [1, (1, 1)]],
        [[1, 2]], [[1, 2], [1, 2], [1, 2]], [[1, 2, 1], [1, 2, 1]], [[1], [2]], [[1, 1], [1, None]], [[1, 1], "11"],
        [[1, 1], {0: 1, 1: 2}], [[-1, 1], [1, 1]], [[[1], 1], [1, 1]], {0: [1, 1], 1: [1, 1]}, [(1, 2), (1, "2")],
    ]


class FitsTest(unittest.TestCase):
    def test_one_row_or_column(self):
        for many in range(1, 5):
            self.assertIs(fits_together([[OTHER] * many]), True)
            self.assertIs(fits_together([[OTHER]] * many), True)

    def test_told_ones(self):
        self.assertIs(fits_together(SQUARES), True)
        self.assertIs(fits_together(as_lists(SQUARES)), True)
        self.assertIs(fits_together(table=[[OTHER, OTHER], [OTHER, OTHER]]), True)
        self.assertIs(fits_together([[ONE, ONE], [ONE, OTHER]]), False)
        # Only the pair inside the cell counts: u in the south-west and north-east, v in the others.
        self.assertIs(fits_together([[((2, 1), (9, 1)), ((8, 1), (3, 1))], [((7, 1), (3, 1)), ((2, 1), (6, 1))]]), True)
        self.assertIs(fits_together([[((2, 1), (9, 1)), ((8, 1), (3, 1))], [((7, 1), (2, 1)), ((3, 1), (6, 1))]]), True)
        self.assertIs(fits_together([[((2, 1), (9, 1)), ((8, 1), (3, 1))], [((3, 1), (9, 1)), ((8, 1), (2, 1))]]), False)

    def test_angles_with_a_quarter_turn_together(self):
        # Where u v is 1 the tangents of the sums are no fractions.
        half, double = (1, 2), (2, 1)
        self.assertIs(fits_together([[(half, ONE[0]), (ONE[0], double)], [(ONE[0], (1, 3)), ((3, 1), ONE[0])]]), True)
        self.assertIs(fits_together([[(half, ONE[0]), (ONE[0], double)], [(ONE[0], (1, 3)), ((2, 1), ONE[0])]]), False)

    def test_random_ones(self):
        random = Random(1)
        seen = set()
        for columns, rows in SIZES * 4:
            table = fitting_table(random, columns, rows, random_number)
            told = told_table(table)
            self.assertIs(unchanged(self, fits_together, told), True)
            self.assertTrue(fits_by_angles(table))
            j, i = random.randrange(rows), random.randrange(columns)
            table[j][i] = (table[j][i][0], table[j][i][1] + 1)
            self.assertIs(fits_together(told_table(table)), fits_by_angles(table))
            seen.add(fits_by_angles(table))
        self.assertEqual(seen, {True, False})

    def test_long_numbers(self):
        random = Random(2)
        for columns, rows in ((4, 4), (2, 4), (3, 3)):
            table = fitting_table(random, columns, rows, long_number)
            self.assertIs(fits_together(told_table(table)), True)
            table[1][1] = (table[1][1][0] + Fraction(1, 10 ** 120), table[1][1][1])
            self.assertIs(fits_together(told_table(table)), False)

    def test_no_tables(self):
        for thing in wrong_tables():
            self.assertRaises(BadTable, fits_together, thing)
            self.assertRaises(BadTable, fulfils, thing, [[1, 1], [1, 1]])
            self.assertRaises(BadTable, fulfils, thing, None)


class FulfilsTest(unittest.TestCase):
    def test_by_the_words(self):
        random = Random(3)
        seen = {}
        for columns, rows in SIZES * 12:
            wish = random_wish(random, columns, rows)
            row = [(random_number(random), random_number(random)) for _ in range(columns)]
            column = [row[0]] + [(random_number(random), random_number(random)) for _ in range(rows - 1)]
            table = grow(row, column, wish)
            if isinstance(table, tuple):
                table = fitting_table(random, columns, rows, random_number)
            for k in range(3):
                wanted = fulfils_by_words(table, wish)
                self.assertIs(fulfils(told_table(table), wish), wanted)
                self.assertIs(fulfils(as_lists(told_table(table)), tuple(map(tuple, wish))), wanted)
                seen[wanted] = seen.get(wanted, 0) + 1
                wish = random_wish(random, columns, rows)
        self.assertGreater(min(seen[True], seen[False]), 30)

    def test_that_does_not_fit_together(self):
        for wish in product((1, 2), repeat=4):
            wish = [wish[:2], wish[2:]]
            self.assertIs(fulfils([[OTHER, OTHER], [OTHER, ((1, 5), (7, 3))]], wish), False)

    def test_quotients_alone_are_not_enough(self):
        # With the same uv everywhere the quotients multiply to 1, whether or not the angles make a whole turn.
        two, three, six = (2, 1), (3, 1), (6, 1)
        self.assertIs(fulfils([[(two, three), (three, two)], [((1, 1), six), (six, (1, 1))]], [[1, 1], [1, 1]]), False)
        self.assertIs(fulfils([[(two, three), (three, two)], [(three, two), (two, three)]], [[1, 1], [1, 1]]), True)

    def test_told_fraction_0(self):
        # m is 0 for u v = 1, n for u = v.
        self.assertIs(fulfils([[((1, 2), (2, 1))]], [[1]]), False)
        self.assertIs(fulfils([[((1, 2), (2, 1))]], [[2]]), True)
        self.assertIs(fulfils([[((1, 2), (1, 2))]], [[1]]), True)
        self.assertIs(fulfils([[((1, 2), (1, 2))]], [[2]]), False)
        self.assertIs(fulfils([[((1, 2), (1, 3)), ((1, 2), (1, 2))]], [[1, 2]]), False)
        self.assertIs(fulfils(wish=[[1, 1]], table=[[((1, 2), (1, 3)), ((1, 2), (1, 2))]]), True)
        for wish in ([[1, 1], [1, 1]], [[2, 2], [2, 2]]):
            self.assertIs(fulfils(SQUARES, wish), False)

    def test_no_wishes(self):
        for thing in wrong_wishes():
            self.assertRaises(BadWish, fulfils, SQUARES, thing)
            self.assertRaises(BadWish, grown, [ONE, OTHER], [ONE, OTHER], thing)
            self.assertRaises(BadWish, grown_bar, [ONE, OTHER], [ONE, OTHER], thing)
        self.assertRaises(BadWish, fulfils, [[ONE, ONE], [ONE, OTHER]], [[1, 2]])
        self.assertRaises(BadWish, fulfils, [[ONE, OTHER, ONE]], [[1], [2], [1]])


class GrownTest(unittest.TestCase):
    def check(self, row, column, wish):
        """Check what grows against the words; the word that bars it, or None."""
        first, side = told_table([row])[0], told_table([column])[0]
        wanted = grow(row, column, wish)
        table, bar = unchanged(self, grown, list(first), side, wish), unchanged(self, grown_bar, first, list(side), wish)
        self.assertEqual((table is None), (bar is not None))
        if isinstance(wanted, tuple):
            self.assertEqual(bar, wanted)
            self.assertIs(type(bar), tuple)
            return bar[0]
        self.assertEqual(table, told_table(wanted))
        self.assertIs(fulfils(table, wish), True)
        # Taken apart into its first row and column it grows again.
        again = grown(table[0], [line[0] for line in table], tuple(map(tuple, wish)))
        self.assertEqual(again, table)
        return None

    def test_random_ones(self):
        random = Random(4)
        seen = {}
        for columns, rows in SIZES * 60:
            row = [(random_number(random), random_number(random)) for _ in range(columns)]
            column = [row[0]] + [(random_number(random), random_number(random)) for _ in range(rows - 1)]
            word = self.check(row, column, random_wish(random, columns, rows))
            seen[word, columns > 2 and rows > 2] = seen.get((word, columns > 2 and rows > 2), 0) + 1
        self.assertEqual(len(seen), 8, seen)

    def test_long_numbers(self):
        random = Random(5)
        seen = {}
        while seen.get(None, 0) < 3:
            row = [(long_number(random, 0.4), long_number(random, 0.4)) for _ in range(4)]
            column = [row[0]] + [(long_number(random, 0.4), long_number(random, 0.4)) for _ in range(3)]
            word = self.check(row, column, random_wish(random, 4, 4))
            seen[word] = seen.get(word, 0) + 1

    def test_one_row_or_column(self):
        row = [OTHER, ((3, 1), (1, 2)), ((1, 4), (5, 1))]
        for wish in product((1, 2), repeat=3):
            self.assertEqual(grown(row, [OTHER], [wish]), (tuple(row),))
            self.assertIsNone(grown_bar(row, (OTHER,), (wish,)))
            self.assertEqual(grown([OTHER], row, [[pick] for pick in wish]), tuple((told,) for told in row))
        self.assertEqual(grown(wish=[[1]], first_column=[OTHER], first_row=[OTHER]), ((OTHER,),))
        self.assertIsNone(grown_bar(wish=[[1]], first_column=[OTHER], first_row=[OTHER]))

    def test_zeros_in_order(self):
        zero, fine = ((1, 2), (2, 1)), ((1, 2), (2, 3))
        ones = [[1] * 3] * 3
        self.assertEqual(grown_bar([zero, zero, zero], [zero] * 3, ones), ("zero", 0, 0))
        self.assertEqual(grown_bar([fine, zero, zero], [fine, zero, zero], ones), ("zero", 1, 0))
        self.assertEqual(grown_bar([fine, fine, zero], [fine, zero, zero], ones), ("zero", 2, 0))
        self.assertEqual(grown_bar([fine, fine, fine], [fine, zero, zero], ones), ("zero", 0, 1))
        # Row 1 bars at its second corner ahead of the zero in row 2.
        first = grown_bar([fine, fine], [fine, fine, zero], [[1, 2], [1, 2], [1, 1]])
        self.assertEqual(first, grow(
            [tuple(Fraction(*x) for x in fine)] * 2, [tuple(Fraction(*x) for x in told) for told in (fine, fine, zero)],
            [[1, 2], [1, 2], [1, 1]],
        ))

    def test_no_angle_at_its_ends(self):
        # The angle left is just none, and just a half turn.
        for v, barred in (((3, 1), True), ((29, 10), False), ((31, 10), True)):
            bar = grown_bar([((1, 1), (1, 3)), ((5, 1), (1, 2))], [((1, 1), (1, 3)), ((2, 5), v)], [[1, 1], [1, 1]])
            self.assertEqual(bar == ("angle", 1, 1), barred)
        quarter = grown_bar([((2, 1), (1, 3)), ((5, 1), (3, 1))], [((2, 1), (1, 3)), ((2, 5), (1, 1))], [[1, 1], [1, 1]])
        self.assertEqual(quarter, ("angle", 1, 1))

    def test_quotient_just_1(self):
        # At the new corner west by south would be 1 or -1: of the size of neither line.
        found = set()
        random = Random(6)
        for _ in range(1200):
            row = [(random_number(random, 4), random_number(random, 4)) for _ in range(2)]
            column = [row[0], (random_number(random, 4), random_number(random, 4))]
            for picks in product((1, 2), repeat=3):
                bars = [grow(row, column, [picks[:2], (picks[2], last)]) for last in (1, 2)]
                if bars == [("side", 1, 1)] * 2:
                    self.assertEqual(self.check(row, column, [picks[:2], (picks[2], 1)]), "side")
                    self.assertEqual(self.check(row, column, [picks[:2], (picks[2], 2)]), "side")
                    found.add(picks)
        self.assertGreater(len(found), 2)

    def test_wrong_rows(self):
        for thing in [*wrong_things(), [], [ONE] * 5, [ONE, ((0, 1), (1, 1))], [ONE, [(1, 1), (1, 1)]], [[ONE]], [ONE, None]]:
            for call in (grown, grown_bar):
                self.assertRaises(BadTable, call, thing, [ONE], [[1]])
                self.assertRaises(BadTable, call, [ONE], thing, [[1]])
                self.assertRaises(BadTable, call, [ONE], thing, None)
        for call in (grown, grown_bar):
            self.assertRaises(BadTable, call, [ONE, OTHER], [OTHER, ONE], [[1, 1], [1, 1]])
            self.assertRaises(BadTable, call, [ONE, OTHER], [OTHER, ONE], None)
            self.assertRaises(BadWish, call, [ONE, OTHER], [ONE], [[1], [1]])


if __name__ == "__main__":
    unittest.main()
