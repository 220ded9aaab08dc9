"""[9.3] Lots that settle a sheet."""
import unittest
from fractions import Fraction
from itertools import combinations
from random import Random

from fourcreases.errors import BadLot, TooMany
from fourcreases.motions import motions, motions_with
from fourcreases.sights import blind_pair, least_sights, settles
from fourcreases.stands import is_stand
from tests.makers import (
    angles_net, chain_net, fold_net, grid, kites, ladder, net, rhombs, single, small_fold_net, star, stiff_net,
    triangle_nets, with_fins, zigzag,
)
from tests.reckoning import twins
from tests.test_motions import half_stiff, large_sheets, small_sheets
from tests.things import unchanged, wrong_things


def settles_by_equations(sheet, lot):
    """Judge a lot by all pairs of motions."""
    places = [sheet.creases.index(crease) for crease in lot]
    found = motions(sheet)
    return all(
        one == other for at, motion in enumerate(found) for ahead in found[:at + 1]
        for one, other in twins(motion, ahead, places, len(sheet.creases))
    )


def few_creases():
    return [star(), single(), grid(2, 1), grid(2, 2), rhombs(1), rhombs(2), ladder(6), zigzag(2, 3), chain_net(2),
            chain_net(3), kites(2), *triangle_nets(), ladder(11)]


def loose_pair():
    """A net in which one motion has several rows and others only some of them."""
    row = [(Fraction(1), Fraction(1)), (Fraction(1), Fraction(1)), (Fraction(2), Fraction(3))]
    return net(angles_net(row, [row[0]], []), [2, 2], [], Fraction(1))


class SettlesTest(unittest.TestCase):
    def check(self, sheet, lot, wanted):
        self.assertIs(settles(sheet, lot), wanted)
        pair = blind_pair(sheet, lot)
        self.assertEqual(pair is None, wanted)
        if pair is not None:
            self.assertIs(type(pair), tuple)
            one, other = pair
            self.assertTrue(is_stand(sheet, one) and is_stand(sheet, other))
            self.assertNotEqual(one, other)
            for crease in lot:
                place = sheet.creases.index(crease)
                self.assertEqual(one[place], other[place])

    def test_by_linear_equations(self):
        kinds = set()
        for sheet in [*small_sheets(), *triangle_nets(), zigzag(4, 4), kites(3), chain_net(4), loose_pair(), fold_net(), stiff_net()]:
            random = Random(9)
            for _ in range(7):
                lot = random.sample(sheet.creases, random.randrange(len(sheet.creases) + 1))
                wanted = settles_by_equations(sheet, lot)
                self.check(sheet, lot, wanted)
                self.check(sheet, tuple(lot[::-1]), wanted)
                kinds.add(wanted)
        self.assertEqual(kinds, {True, False})

    def test_several_rows_against_one(self):
        # Here two or three rows of one motion look together like the row of another one.
        for sheet, lot in (
            (zigzag(4, 4), [(3, 8), (8, 13), (10, 11), (12, 17), (13, 14), (16, 21)]),
            (zigzag(3, 4), [(2, 6), (6, 7), (8, 9), (9, 13), (10, 14)]),
            (zigzag(4, 3), [(3, 8), (6, 11), (7, 8), (7, 12), (8, 9)]),
        ):
            self.assertFalse(settles_by_equations(sheet, lot))
            self.check(sheet, lot, False)
            places = [motions_with(sheet, numbers) for numbers in blind_pair(sheet, lot)]
            self.assertEqual(sorted(len(place) for place in places), [1, 1])
            for at in range(len(sheet.creases)):
                more = lot + [crease for crease in sheet.creases[at:at + 1] if crease not in lot]
                self.check(sheet, more, settles_by_equations(sheet, more))

    def test_none_and_all(self):
        for sheet in [*small_sheets(), *large_sheets(), kites(9), chain_net(9)]:
            self.check(sheet, sheet.creases, True)
            self.check(sheet, [], motions(sheet) == [()])

    def test_told_ones(self):
        # Both lines of the star tell all of a stand, but not which of them it is.
        for lot in combinations(star().creases, 1):
            self.check(star(), lot, False)
        for lot in combinations(star().creases, 2):
            self.check(star(), lot, True)
        sheet = grid(3, 3)
        columns = [crease for crease in sheet.creases if crease[1] - crease[0] == 4]
        rows = [crease for crease in sheet.creases if crease[1] - crease[0] == 1]
        self.check(sheet, [columns[0], columns[1], rows[0], rows[3]], True)
        self.check(sheet, columns, False)
        self.check(sheet, [columns[0], columns[2], rows[0], rows[3]], False)
        self.check(single(), [], True)

    def test_one_crease_less(self):
        for sheet in (kites(9), rhombs(9), ladder(40), with_fins(fold_net(), 14), chain_net(9), zigzag(4, 4)):
            lot = list(sheet.creases)
            while settles(sheet, lot):
                self.check(sheet, lot, True)
                lot = lot[2:]
            self.check(sheet, lot, False)

    def test_bad_lots(self):
        for wrong in [
            *wrong_things(), [(0, 1), (0, 1)], [(1, 0)], [[0, 1]], [(False, 1)], [(0, True)], [(0, 5)], [(1, 5)], (0, 1),
            [(0, 1), None], {(0, 1): 1}, [(0, 1, 2)], [()], [0, 1], "01",
        ]:
            if wrong in ((), []):
                continue
            for call in (settles, blind_pair):
                with self.assertRaises(BadLot, msg=wrong):
                    call(star(), wrong)
        with self.assertRaises(BadLot):
            settles(single(), [(0, 1)])

    def test_by_name_and_unchanged(self):
        lot = [(0, 3), (0, 1)]
        self.assertIs(settles(lot=lot, sheet=star()), True)
        self.assertIsNone(blind_pair(lot=lot, sheet=star()))
        self.assertIs(unchanged(self, settles, star(), lot), True)
        self.assertIsNone(unchanged(self, blind_pair, star(), lot))
        self.assertIsNotNone(unchanged(self, blind_pair, star(), [(0, 1)]))


class LeastTest(unittest.TestCase):
    def test_by_trying_all(self):
        for sheet in few_creases():
            some = [lot for many in range(len(sheet.creases) + 1) for lot in combinations(sheet.creases, many)]
            good = [lot for lot in some if settles(sheet, lot)]
            wanted = [lot for lot in good if not any(set(other) < set(lot) for other in good)]
            found = least_sights(sheet)
            self.assertIs(type(found), list)
            self.assertEqual(found, wanted)
            self.assertEqual(found, sorted(found, key=lambda lot: (len(lot), lot)))

    def test_told_ones(self):
        self.assertEqual(least_sights(star()), list(combinations(star().creases, 2)))
        self.assertEqual(least_sights(single()), [()])
        self.assertEqual(least_sights(ladder(4)), [ladder(4).creases])
        self.assertEqual(least_sights(grid(2, 2)), [((1, 4), (3, 4)), ((1, 4), (4, 5)), ((3, 4), (4, 7)), ((4, 5), (4, 7))])

    def test_too_many(self):
        self.assertEqual(len(ladder(11).creases), 10)
        self.assertEqual(least_sights(ladder(11)), [ladder(11).creases])
        self.assertEqual(len(chain_net(3).creases), 10)
        self.assertNotEqual(least_sights(chain_net(3)), [])
        for sheet in (ladder(12), small_fold_net(), rhombs(9), half_stiff(), fold_net()):
            self.assertGreater(len(sheet.creases), 10)
            with self.assertRaises(TooMany) as caught:
                least_sights(sheet)
            self.assertEqual(caught.exception.most, 10)

    def test_lists_are_new(self):
        first = least_sights(star())
        first.append(7)
        self.assertEqual(least_sights(sheet=star()), first[:-1])


if __name__ == "__main__":
    unittest.main()
