"""[13.4] Lengths and length bars."""
import unittest
from fractions import Fraction
from itertools import product
from random import Random

from fourcreases.errors import BadTable
from fourcreases.lengths import are_lengths, is_length_bar, length_bar, lengths_for
from tests.makers import growing, pair, worth
from tests.tables import (
    FEW, close_by_words, few_of, fitting_table, gains_by_words, grow, known_table, long_number, random_number, told_table,
)
from tests.test_tables import ONE, OTHER, SQUARES, as_lists, wrong_tables
from tests.things import unchanged, wrong_things

SIZES = list(product((1, 2, 3, 4), repeat=2))


def steep_number(random):
    return random.choice(FEW[3:]) ** random.randint(1, 2)


def known_rows(rows):
    return [[worth(x) for x in row] for row in rows]


def barred_table(seed, columns=4, rows=4):
    """A table that has no lengths."""
    random = Random(seed)
    while True:
        table = told_table(fitting_table(random, columns, rows, steep_number))
        if lengths_for(table) is None:
            return table


class LengthsTest(unittest.TestCase):
    def judge(self, told):
        """Check that just one of lengths and a bar is there, and that it is right by the words."""
        table = known_table(told)
        lengths, bar = unchanged(self, lengths_for, told), unchanged(self, length_bar, told)
        self.assertEqual(lengths is None, bar is not None)
        columns, rows = len(table[0]), len(table)
        if lengths is not None:
            across, up = lengths
            self.assertIs(type(lengths), tuple)
            self.assertEqual([len(row) for row in across], [columns - 1] * rows)
            self.assertEqual([len(row) for row in up], [columns] * (rows - 1))
            self.assertTrue(all(x[0] > 0 for row in (*across, *up) for x in row))
            self.assertTrue(close_by_words(table, known_rows(across), known_rows(up)))
            self.assertIs(are_lengths(told, lengths), True)
            self.assertIs(are_lengths(as_lists(told), (as_lists(across), as_lists(up))), True)
            return "lengths"
        self.assertIs(type(bar), tuple)
        self.assertEqual([len(row) for row in bar], [columns - 1] * (rows - 1))
        gains = gains_by_words(table, [[(worth(x), worth(y)) for x, y in row] for row in bar])
        self.assertTrue(min(gains) >= 0 and max(gains) > 0)
        self.assertIs(is_length_bar(told, bar), True)
        self.assertIs(is_length_bar(as_lists(told), as_lists(bar)), True)
        return "bar"

    def test_all_sizes(self):
        random = Random(1)
        seen = {}
        for number in (random_number, few_of, steep_number):
            for columns, rows in SIZES + [(4, 4), (3, 4), (4, 3), (3, 3)] * 12:
                word = self.judge(told_table(fitting_table(random, columns, rows, number)))
                seen[word, columns, rows] = seen.get((word, columns, rows), 0) + 1
        self.assertGreater(seen["bar", 4, 4], 3)
        self.assertEqual(len([key for key in seen if key[0] == "lengths"]), 16)

    def test_grown_ones(self):
        random = Random(2)
        for columns, rows, wanted in ((3, 3, 20), (4, 3, 5), (4, 4, 2)):
            many = 0
            while many < wanted:
                row = [(few_of(random), few_of(random)) for _ in range(columns)]
                column = [row[0]] + [(few_of(random), few_of(random)) for _ in range(rows - 1)]
                table = grow(row, column, [[random.choice((1, 2)) for _ in range(columns)] for _ in range(rows)])
                if not isinstance(table, tuple):
                    self.judge(told_table(table))
                    many += 1

    def test_long_numbers(self):
        random = Random(3)
        for spread in (0.5, 2):
            for columns, rows in ((4, 4), (3, 4)):
                self.judge(told_table(fitting_table(random, columns, rows, lambda some: long_number(some, spread))))
        # One that grew out of numbers with 40 digits, with thousands of digits.
        table = None
        while not isinstance(table, list):
            row = [(long_number(random), long_number(random)) for _ in range(4)]
            column = [row[0]] + [(long_number(random), long_number(random)) for _ in range(3)]
            table = grow(row, column, [[random.choice((1, 2)) for _ in range(4)] for _ in range(4)])
        self.assertGreater(table[3][3][1].numerator, 10 ** 1000)
        self.judge(told_table(table))

    def test_long_numbers_that_bar(self):
        random = Random(4)
        seen = []
        while "bar" not in seen:
            table = fitting_table(random, 4, 4, lambda some: steep_number(some) + Fraction(1, 10 ** 38 + some.randint(1, 9)))
            seen.append(self.judge(told_table(table)))

    def test_without_cells(self):
        self.assertEqual(lengths_for([[OTHER]]), (((),), ()))
        self.assertIs(are_lengths([[OTHER]], ([()], [])), True)
        self.assertIs(are_lengths([[OTHER]], ([], [])), False)
        self.assertIs(are_lengths([[OTHER, ONE]], ([[(5, 1)]], [])), True)
        self.assertIs(are_lengths([[OTHER, ONE]], ([[(5, 1)]], [[]])), False)
        self.assertIs(are_lengths([[OTHER, ONE]], ([[(0, 1)]], [])), False)
        self.assertIs(are_lengths([[OTHER], [ONE]], ([[], ()], ([(1, 7)],))), True)
        self.assertIs(are_lengths([[OTHER], [ONE]], ([[]], ([(1, 7)],))), False)
        self.assertIs(are_lengths([[OTHER], [ONE]], ([[], []], ([(-1, 7)],))), False)
        for many in range(1, 5):
            for table in ([[OTHER] * many], [[OTHER]] * many):
                self.assertEqual(self.judge(table), "lengths")
                for thing in ([], [[]] * (many - 1), [[((1, 1), (1, 1))]] * (many - 1), [[]]):
                    self.assertIs(is_length_bar(table, thing), False)


class JudgesTest(unittest.TestCase):
    def test_one_length_changed(self):
        table = told_table(growing(
            [(Fraction(2, 3), Fraction(1)), (Fraction(5, 8), Fraction(4, 3))],
            [(Fraction(2, 3), Fraction(1)), (Fraction(3, 5), Fraction(2, 3))], [[2, 2], [1, 1]],
        ))
        across, up = lengths_for(table)
        self.assertIs(are_lengths(thing=(across, up), table=table), True)
        for rows, other in ((across, up), (up, across)):
            for j, i in product(range(len(rows)), range(len(rows[0]))):
                for new in (pair(worth(rows[j][i]) + 1), (0, 1), pair(-worth(rows[j][i])), True, 1, None, list(rows[j][i])):
                    changed = [list(row) for row in rows]
                    changed[j][i] = new
                    told = (changed, other) if rows is across else (other, changed)
                    self.assertIs(are_lengths(table, told), False)
        double = tuple([[pair(3 * worth(x)) for x in row] for row in rows] for rows in (across, up))
        self.assertIs(are_lengths(table, double), True)

    def test_all_zero_and_below(self):
        for size in (0, -1):
            self.assertIs(are_lengths(SQUARES, ([[(size, 1)]] * 2, [[(size, 1)] * 2])), False)
        self.assertIs(are_lengths(SQUARES, ([[(1, 1)]] * 2, [[(1, 1)] * 2])), True)
        self.assertIs(are_lengths(SQUARES, ([[(1, 1)]] * 2, [[(5, 2)] * 2])), True)
        self.assertIs(are_lengths(SQUARES, ([[(1, 1)], [(2, 1)]], [[(5, 2)] * 2])), False)

    def test_other_shapes(self):
        across, up = [[(1, 1)], [(1, 1)]], [[(1, 1), (1, 1)]]
        self.assertIs(are_lengths(SQUARES, (across, up)), True)
        for thing in [
            *wrong_things(), [across, up], (across,), (across, up, up), (up, across), (across[:1], up), (across * 2, up),
            (across, up * 2), (across, []), ([[(1, 1)] * 2] * 2, up), (across, [[(1, 1)]]), (across, [[(1, 1)] * 3]),
            ({0: [(1, 1)], 1: [(1, 1)]}, up), (across, None), (None, up), ([(1, 1), (1, 1)], up), (across, [{0: 1, 1: 1}]),
        ]:
            self.assertIs(are_lengths(SQUARES, thing), False)

    def test_one_vector_changed(self):
        for seed in (1, 2, 3):
            told = barred_table(seed)
            table, bar = known_table(told), length_bar(told)
            self.assertIs(is_length_bar(thing=bar, table=told), True)
            random = Random(seed)
            seen = set()
            for _ in range(60):
                changed = [[list(map(worth, vector)) for vector in row] for row in bar]
                j, i, k = random.randrange(3), random.randrange(3), random.randrange(2)
                changed[j][i][k] += random.choice((1, -1, Fraction(1, 10 ** 9), Fraction(-1, 10 ** 9), 10 ** 6))
                gains = gains_by_words(table, changed)
                wanted = min(gains) >= 0 and max(gains) > 0
                thing = [[tuple(map(pair, vector)) for vector in row] for row in changed]
                self.assertIs(is_length_bar(told, thing), wanted)
                seen.add(wanted)
            self.assertIn(False, seen)
            still = [[((0, 1), (0, 1))] * 3] * 3
            self.assertIs(is_length_bar(told, still), False)
            back = [[tuple(pair(-worth(x)) for x in vector) for vector in row] for row in bar]
            self.assertIs(is_length_bar(told, back), False)
            many = [[tuple(pair(7 * worth(x)) for x in vector) for vector in row] for row in bar]
            self.assertIs(is_length_bar(told, many), True)

    def test_bars_of_other_shapes(self):
        told = barred_table(5)
        bar = as_lists(length_bar(told))
        things = [
            *wrong_things(), bar[:2], [*bar, bar[0]], [row[:2] for row in bar], [[*row, row[0]] for row in bar],
            [[list(vector) for vector in row] for row in bar], [[(*vector, (0, 1)) for vector in row] for row in bar],
            [[vector[0] for vector in row] for row in bar], {0: bar[0]}, [*bar[:2], None], [*bar[:2], [*bar[2][:2], 1]],
            [*bar[:2], [*bar[2][:2], ((1, 1), (2, 4))]], [*bar[:2], [*bar[2][:2], ((True, 1), (1, 1))]],
        ]
        for thing in things:
            self.assertIs(is_length_bar(told, thing), False)

    def test_no_bar_where_there_are_lengths(self):
        random = Random(6)
        for columns, rows in SIZES:
            told = told_table(fitting_table(random, columns, rows, random_number))
            if lengths_for(told) is not None:
                for _ in range(5):
                    thing = [
                        [(pair(random.randint(-5, 5)), pair(random.randint(-5, 5))) for _ in range(columns - 1)]
                        for _ in range(rows - 1)
                    ]
                    self.assertIs(is_length_bar(told, thing), False)

    def test_short_vectors_on_squares(self):
        for x, y in product((-1, 0, 1), repeat=2):
            self.assertIs(is_length_bar(SQUARES, [[((x, 1), (y, 1))]]), False)
            self.assertIs(is_length_bar([[ONE] * 3] * 2, [[((x, 1), (y, 1)), ((y, 1), (x, 1))]]), False)

    def test_no_tables(self):
        unfit = [[OTHER, OTHER], [OTHER, ONE]]
        for thing in [*wrong_tables(), unfit]:
            self.assertRaises(BadTable, lengths_for, thing)
            self.assertRaises(BadTable, length_bar, thing)
            self.assertRaises(BadTable, are_lengths, thing, ([[(1, 1)]] * 2, [[(1, 1)] * 2]))
            self.assertRaises(BadTable, is_length_bar, thing, None)


if __name__ == "__main__":
    unittest.main()
