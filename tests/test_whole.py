"""The whole program: a few sheets through all functions, which agree where the document ties them; the nine facts."""
import unittest
from fractions import Fraction
from itertools import product
from random import Random

from fourcreases.bands import Patch, band_many, band_sheet
from fourcreases.bench import Bench
from fourcreases.books import book_bar, book_number, book_stand, books_many, is_round
from fourcreases.corners import corner_fractions, corner_tangents, line_of
from fourcreases.crossing import crossing_plates, crossing_point, is_crossing
from fourcreases.drives import drive_of, undriven
from fourcreases.errors import BadSheet
from fourcreases.folders import first_leap, first_wrong
from fourcreases.fracs import frac_mul
from fourcreases.joining import cut_numbers, joined
from fourcreases.lengths import are_lengths, is_length_bar, length_bar, lengths_for
from fourcreases.locking import least_locks, locks, slip
from fourcreases.motions import (
    bar_of, can_fold, folded, hands, motions, motions_with, one_motion, space_of, still_creases,
)
from fourcreases.nets import sheet_of
from fourcreases.pressing import flat_placing, pressed
from fourcreases.seen import fitting, is_unfit_tree, sure_number, two_fitting, unfit_tree
from fourcreases.sheets import Sheet
from fourcreases.sights import blind_pair, least_sights, settles
from fourcreases.slits import least_slit, slit_folds, slit_motions
from fourcreases.space import gap2, is_placing, placed, shown_numbers, spot_at
from fourcreases.stands import is_stand, open_corner
from fourcreases.swings import meeting_count, poly_at, quotient_at, stays_apart, swing_gap
from fourcreases.tables import fits_together, fulfils, grown, grown_bar
from fourcreases.texts import (
    frac_text, numbers_text, read_frac, read_numbers, read_sheet, read_tree, sheet_text, tree_text,
)
from fourcreases.trees import all_tree, is_all_tree, is_never_tree, never_tree
from fourcreases.ways import is_parting, is_way, parting, way
from tests.makers import chain_net, fold_net, pair, small_fold_net, star, stiff_net, uneven_nets, worth
from tests.patches import counted
from tests.reckoning import corner_mn, sum_of, turn_round
from tests.tables import few_of, fitting_table, random_number, told_table
from tests.things import wrong_things

FLAT = (0, 1)


def sheets():
    """A star, a row, two nets with a plate wholly within, one with nine inner corners that folds and one that does not."""
    return [star(), chain_net(3), small_fold_net(), uneven_nets()[0], fold_net(), stiff_net()]


def stands_of(sheet):
    """Some stands: the flat one, and sums of multiples of the rows of the first and the last motion."""
    found = [(FLAT,) * len(sheet.creases)]
    for rows in (motions(sheet)[0], motions(sheet)[-1]):
        for factors in ([1] * len(rows), [Fraction(-k, k + 1) for k in range(len(rows))]):
            found.append(sum_of(rows, factors, len(sheet.creases)))
    return found


def lot_of(sheet, numbers):
    return [crease for crease, number in zip(sheet.creases, numbers) if number != FLAT]


def middle(sheet, number):
    """A spot on the side of a plate."""
    one, other = [sheet.corners[corner] for corner in sheet.plates[number][:2]]
    return (number, tuple(pair((worth(x) + worth(y)) / 2) for x, y in zip(one, other)))


class AgreeTest(unittest.TestCase):
    def test_a_crease_through_all_functions(self):
        for sheet in sheets():
            still = still_creases(sheet)
            place = {crease: at for at, crease in enumerate(sheet.creases)}
            for crease in sheet.creases[::3]:
                moves = crease not in still
                stand = folded(sheet, crease)
                self.assertEqual([can_fold(sheet, crease), stand is not None], [moves, moves])
                self.assertEqual(never_tree(sheet, crease) is None, moves)
                self.assertEqual(least_slit(sheet, crease) == (), moves)
                self.assertEqual(locks(sheet, (), crease), not moves)
                self.assertEqual(any(row[place[crease]] != FLAT for rows in motions(sheet) for row in rows), moves)
                self.assertEqual(sure_number(sheet, {}, crease), None if moves else FLAT)
                self.assertEqual(two_fitting(sheet, {}, crease) is not None, moves)
                self.assertEqual(fitting(sheet, {crease: (1, 1)}) is not None, moves)
                self.assertEqual(drive_of(sheet, crease, crease), (1, 1) if moves else FLAT)
                self.assertIsNone(undriven(sheet, crease, crease))
                if moves:
                    self.assertEqual(stand[place[crease]], (1, 1))
                    self.assertTrue(is_stand(sheet, stand))
                else:
                    tree = never_tree(sheet, crease)
                    self.assertTrue(is_never_tree(sheet, crease, read_tree(tree_text(tree))))
                    self.assertEqual(unfit_tree(sheet, {crease: FLAT}), None)
                    paper = unfit_tree(sheet, {crease: (1, 1)})
                    self.assertTrue(is_unfit_tree(sheet, {crease: (1, 1)}, paper))
                    self.assertTrue(is_unfit_tree(sheet, {crease: (1, 1)}, tree))
                    slit = least_slit(sheet, crease)
                    self.assertTrue(slit_folds(sheet, slit, crease))

    def test_a_stand_through_all_functions(self):
        for sheet in sheets():
            spaces = motions(sheet)
            self.assertEqual(hands(sheet), [len(rows) for rows in spaces])
            self.assertTrue(is_all_tree(sheet, spaces, read_tree(tree_text(all_tree(sheet)))))
            for numbers in stands_of(sheet):
                self.assertTrue(is_stand(sheet, numbers))
                self.assertIsNone(open_corner(sheet, numbers))
                self.assertEqual(read_numbers(numbers_text(numbers)), numbers)
                self.assertEqual(motions_with(sheet, numbers)[0], one_motion(sheet, [numbers]))
                lot = lot_of(sheet, numbers)
                self.assertEqual(pressed(sheet, numbers), flat_placing(sheet, lot))
                book = [(top > 0) - (top < 0) for top, _ in numbers]
                same = book_stand(sheet, book)
                self.assertEqual([(top > 0) - (top < 0) for top, _ in same], book)
                self.assertIsNone(book_bar(sheet, book))
                told = dict(zip(sheet.creases, numbers))
                self.assertEqual(fitting(sheet, told), numbers)
                self.assertEqual(way(sheet, numbers, numbers, {}), [numbers])
                flat = (FLAT,) * len(sheet.creases)
                there = way(sheet, flat, numbers, {})
                self.assertTrue(is_way(sheet, flat, numbers, {}, there))
                self.assertLessEqual(len(there), 2)
                self.check_folder(sheet, numbers)
                self.check_space(sheet, numbers)
                self.check_parts(sheet, numbers)

    def check_folder(self, sheet, numbers):
        """The swing of a stand never leaves its motion."""
        def swing(number):
            return [frac_mul(one, number) for one in numbers]

        tries = [(0, 1), (1, 3), (-7, 2), (1, 3)]
        self.assertIsNone(first_wrong(sheet, swing, tries))
        self.assertIsNone(first_leap(sheet, swing, tries))

    def check_space(self, sheet, numbers):
        placing = placed(sheet, numbers)
        self.assertTrue(is_placing(sheet, placing))
        self.assertEqual(shown_numbers(sheet, placing), numbers)
        last = len(sheet.plates) - 1
        one, other = middle(sheet, 0), middle(sheet, last)
        here, there = [spot_at(sheet, numbers, spot) for spot in (one, other)]
        square = sum((worth(x) - worth(y)) ** 2 for x, y in zip(here, there))
        gap = swing_gap(sheet, numbers, one, other)
        self.assertEqual(worth(gap2(sheet, numbers, one, other)), square)
        self.assertEqual(worth(quotient_at(gap, (1, 1))), square)
        double = [frac_mul(number, (-2, 1)) for number in numbers]
        self.assertEqual(quotient_at(gap, (-2, 1)), gap2(sheet, double, one, other))
        self.assertEqual(stays_apart(sheet, numbers, one, other), len(gap[0]) <= 1 and len(gap[1]) == 1)
        self.assertEqual(poly_at(gap[0], FLAT), gap[0][0] if gap[0] else FLAT)
        self.assertEqual(meeting_count(sheet, numbers, one, one, (0, 1), (1, 1)), None)
        self.assertIn(meeting_count(sheet, numbers, one, other, (-1, 1), (1, 1)), range(9))
        crossing = crossing_plates(sheet, numbers)
        for a, b in ((0, last), *crossing[:2]):
            point = crossing_point(sheet, numbers, a, b)
            self.assertEqual(point is not None, (a, b) in crossing)
            if point is not None:
                self.assertTrue(is_crossing(sheet, numbers, b, a, point))

    def check_parts(self, sheet, numbers):
        """A stand of the whole is one of each part, and one of the slit sheet."""
        for many in range(1, len(sheet.plates), 5):
            try:
                part = Sheet(*plates_alone(sheet, sheet.plates[:many]))
            except BadSheet:
                continue
            self.assertTrue(is_stand(part, cut_numbers(sheet, part, numbers)))
        for a, b in [crease for crease in sheet.creases if (crease[0] in sheet.inner) != (crease[1] in sheet.inner)][:2]:
            slit = (a, b) if b in sheet.inner else (b, a)
            left = [number for crease, number in zip(sheet.creases, numbers) if crease != (a, b)]
            spaces = slit_motions(sheet, slit)
            self.assertTrue(any(in_space(left, rows) for rows in spaces))

    def test_lots_of_small_sheets(self):
        for sheet in (star(), chain_net(2), chain_net(3)):
            if len(sheet.creases) <= 10:
                for lot in least_sights(sheet):
                    self.assertTrue(settles(sheet, lot))
                for lot in least_locks(sheet):
                    self.assertTrue(locks(sheet, lot))
        for sheet in sheets():
            self.assertIsNone(blind_pair(sheet, sheet.creases))
            self.assertIsNone(slip(sheet, sheet.creases))
            self.assertEqual(slip(sheet, ()) is None, motions(sheet) == [()])

    def test_a_changed_sheet_through_all_functions(self):
        for sheet in sheets():
            self.assertEqual(read_sheet(sheet_text(sheet)), sheet)
            bench = Bench()
            for plate in sheet.plates[:-1]:
                bench.put([sheet.corners[corner] for corner in plate])
            last = [sheet.corners[corner] for corner in sheet.plates[-1]]
            told = bench.moves(last)
            made = bench.trying(lambda same: (same.put(last), same.made())[1])
            self.assertEqual(told, hands(made))
            self.assertEqual(sorted(told), sorted(hands(sheet)))
            # The made sheet is a part of the told one, and the other way round.
            for numbers in stands_of(sheet):
                here = cut_numbers(sheet, made, numbers)
                self.assertTrue(is_stand(made, here))
                self.assertEqual(cut_numbers(made, sheet, here), numbers)
            bench.put(last)
            for a, b in sheet.creases[::6]:
                self.assertEqual(bench.folds(sheet.corners[a], sheet.corners[b]), can_fold(sheet, (a, b)))
            front, back = plates_alone(sheet, sheet.plates[:-1]), plates_alone(sheet, sheet.plates[-1:])
            whole = joined(Sheet(*front), Sheet(*back))
            self.assertEqual(whole, Sheet(*plates_alone(sheet, sheet.plates)))

    def test_bands(self):
        for name in ("row", "wide", "diamonds"):
            patch = counted(name)
            two = band_sheet(patch, 2)
            again = Patch(read_sheet(sheet_text(patch.sheet)), patch.left, patch.right)
            self.assertEqual(band_sheet(again, 2), two)
            many = sum(bar_of(two, choice) is None for choice in product((1, 2), repeat=len(two.inner)))
            self.assertEqual(many, band_many(patch, 2, 10 ** 6))
            self.assertEqual(books_many(two) > 0, many > 0)
            numbers = motions(two)[0][0]
            self.assertTrue(is_stand(patch.sheet, cut_numbers(two, patch.sheet, numbers)))

    def test_nets(self):
        pairs = [((2, 3), (1, 1)), ((5, 8), (4, 3))], [((2, 3), (1, 1)), ((3, 5), (2, 3))]
        wish = [[2, 2], [1, 1]]
        table = grown(*pairs, wish)
        self.assertIsNone(grown_bar(*pairs, wish))
        self.assertTrue(fits_together(table) and fulfils(table, wish))
        sheet = sheet_of(table, *lengths_for(table), (1, 2))
        # From the second row on the crease to the south is the least one, so the pairs change places.
        choice = (2, 2, 2, 2)
        self.assertIsNone(bar_of(sheet, choice))
        self.assertEqual([len(row) for row in space_of(sheet, choice)], [len(sheet.creases)])
        number = book_number(sheet, books_many(sheet) - 1)
        self.assertEqual(set(number) - {1, -1}, set())
        self.assertIsNotNone(book_stand(sheet, number))
        for corner in sheet.inner:
            self.assertEqual(tuple(map(worth, corner_fractions(sheet, corner))), corner_mn(sheet, corner))
            self.assertEqual(read_frac(frac_text(corner_tangents(sheet, corner)[0])), corner_tangents(sheet, corner)[0])


def plates_alone(sheet, plates):
    """The corners and plates of some plates of a sheet."""
    corners = sorted({corner for plate in plates for corner in plate})
    return [sheet.corners[corner] for corner in corners], [[corners.index(corner) for corner in plate] for plate in plates]


def in_space(numbers, rows):
    left = [worth(number) for number in numbers]
    for row in rows:
        head = next(k for k, x in enumerate(row) if x != FLAT)
        left = [x - left[head] * worth(y) for x, y in zip(left, row)] if left[head] else left
    return not any(left)


class FactsTest(unittest.TestCase):
    def test_first(self):
        """Four plates round a corner come back to where they lay exactly if the four numbers close."""
        random = Random(1)
        seen = set()
        for sheet in (star(), small_fold_net(), chain_net(3)):
            for corner in sheet.inner:
                m, n = corner_mn(sheet, corner)
                for _ in range(6):
                    s = Fraction(random.randint(-9, 9), random.randint(1, 9))
                    four = random.choice(((s, -m * s, s, m * s), (-n * s, s, n * s, s), (s, s, -s, s), (0, s, 0, s)))
                    told = [pair(x) for x in four]
                    closes = line_of(sheet, corner, told) is not None
                    self.assertEqual(self.comes_back(sheet, corner, four), closes)
                    seen.add(closes)
        self.assertEqual(seen, {True, False})

    def comes_back(self, sheet, corner, four):
        """Tell whether all turns together, each told in the plane as it lay, move no end of a crease."""
        def lift(number):
            x, y = map(worth, sheet.corners[number])
            return (x, y, Fraction(0))

        ends = [sum(crease) - corner for crease in sheet.around(corner)]

        def turned(place):
            # A turn behind others is about the axis that these have moved, so the last one comes first here.
            for end, number in reversed(list(zip(ends, four))):
                place = turn_round(lift(corner), lift(end), Fraction(number), place)
            return place

        return all(turned(lift(end)) == lift(end) for end in ends)

    def test_second(self):
        for sheet in (*sheets()[:4], *uneven_nets()):
            for choice in product((1, 2), repeat=len(sheet.inner)):
                rows = space_of(sheet, choice)
                full = all(any(row[k] != FLAT for row in rows) for k in range(len(sheet.creases)))
                self.assertEqual(bar_of(sheet, choice) is None, full)

    def test_third_to_seventh(self):
        random = Random(3)
        for sheet in sheets()[:4]:
            for crease in sheet.creases[::4]:
                self.assertNotEqual(can_fold(sheet, crease), never_tree(sheet, crease) is not None)
            for numbers in stands_of(sheet):
                self.assertEqual(shown_numbers(sheet, placed(sheet, numbers)), numbers)
                lot = lot_of(sheet, numbers)
                self.assertIsNotNone(flat_placing(sheet, lot))
                broken = [crease for crease in sheet.creases if crease not in lot][:1] + lot[1:]
                fits = all(self.may_be_shut(sheet, corner, broken) for corner in sheet.inner)
                self.assertEqual(flat_placing(sheet, broken) is not None, fits)
            for _ in range(20):
                book = [random.choice((1, -1, 0)) for _ in sheet.creases]
                bar = book_bar(sheet, book)
                self.assertNotEqual(book_stand(sheet, book) is None, bar is None)
                if bar is not None and bar[0] == "round":
                    self.assertTrue(is_round(sheet, book, bar[1]))
            self.check_ways(sheet)

    def may_be_shut(self, sheet, corner, lot):
        shut = [crease in lot for crease in sheet.around(corner)]
        m, n = corner_mn(sheet, corner)
        return sum(shut) in (0, 4) or shut == [True, False] * 2 and m == 0 or shut == [False, True] * 2 and n == 0

    def check_ways(self, sheet):
        stands = [numbers for numbers in stands_of(sheet) if any(number != FLAT for number in numbers)]
        for one, other in product(stands, repeat=2):
            places = [k for k, (x, y) in enumerate(zip(one, other)) if x != FLAT and y != FLAT][:2]
            held = {sheet.creases[k]: pair(min(abs(worth(one[k])), abs(worth(other[k])))) for k in places}
            there, paper = way(sheet, one, other, held), parting(sheet, one, other, held)
            self.assertNotEqual(there is None, paper is None)
            if there is None:
                self.assertTrue(is_parting(sheet, one, other, held, paper))
            else:
                self.assertTrue(is_way(sheet, one, other, held, there))

    def test_eighth_and_ninth(self):
        random = Random(4)
        for number in (random_number, few_of):
            for columns, rows in product((1, 2, 3, 4), repeat=2):
                table = told_table(fitting_table(random, columns, rows, number))
                lengths, bar = lengths_for(table), length_bar(table)
                self.assertNotEqual(lengths is None, bar is None)
                self.assertTrue(is_length_bar(table, bar) if lengths is None else are_lengths(table, lengths))
                wish = [[random.choice((1, 2)) for _ in range(columns)] for _ in range(rows)]
                found = grown(table[0], [row[0] for row in table], wish)
                if fulfils(table, wish):
                    self.assertEqual(found, table)
                self.assertEqual(found is None, grown_bar(table[0], [row[0] for row in table], wish) is not None)


class ThingsTest(unittest.TestCase):
    def test_judges_of_wrong_things(self):
        sheet = star()
        table = [[((1, 1), (1, 1))] * 2] * 2
        for thing in wrong_things():
            self.assertIs(is_stand(sheet, thing), False)
            self.assertIs(is_placing(sheet, thing), False)
            self.assertIs(is_never_tree(sheet, (0, 1), thing), False)
            self.assertIs(is_unfit_tree(sheet, {}, thing), False)
            self.assertIs(are_lengths(table, thing), False)
            self.assertIs(is_length_bar(table, thing), False)
            self.assertIs(is_way(sheet, (FLAT,) * 4, (FLAT,) * 4, {}, thing), False)


if __name__ == "__main__":
    unittest.main()
