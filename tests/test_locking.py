"""[10.2], [10.3] Lots that lock."""
import unittest
from itertools import combinations
from random import Random

from fourcreases.errors import BadLot, BadPrices, NoCrease, TooMany
from fourcreases.locking import cheapest_lock, least_locks, locks, slip
from fourcreases.motions import motions, still_creases
from fourcreases.stands import is_stand
from tests.makers import (
    chain_net, fold_net, grid, kites, ladder, rhombs, single, small_fold_net, star, stiff_net,
    triangle_nets, with_fins, zigzag,
)
from tests.reckoning import fits_in
from tests.test_motions import half_stiff, large_sheets, small_sheets
from tests.test_sights import few_creases
from tests.things import DIGITS_40, unchanged, wrong_things


def locks_by_equations(sheet, lot, crease):
    """Judge a lot by all stands of each motion that have 0 there."""
    told = {sheet.creases.index(glued): (0, 1) for glued in lot}
    places = range(len(sheet.creases)) if crease is None else [sheet.creases.index(crease)]
    for rows in motions(sheet):
        _, free = fits_in(rows, told, len(sheet.creases))
        if any(row[place] for row in free for place in places):
            return False
    return True


class LocksTest(unittest.TestCase):
    def check(self, sheet, lot, crease, wanted):
        self.assertIs(locks(sheet, lot, crease), wanted)
        stand = slip(sheet, lot, crease)
        self.assertEqual(stand is None, wanted)
        if stand is not None:
            self.assertIs(type(stand), tuple)
            self.assertTrue(is_stand(sheet, stand))
            self.assertEqual([stand[sheet.creases.index(glued)] for glued in lot], [(0, 1)] * len(lot))
            moving = stand if crease is None else [stand[sheet.creases.index(crease)]]
            self.assertTrue(any(number != (0, 1) for number in moving))

    def test_by_linear_equations(self):
        kinds = set()
        for sheet in [*small_sheets(), *triangle_nets(), stiff_net(), kites(3), chain_net(4), zigzag(4, 4)]:
            random = Random(12)
            for _ in range(3):
                lot = random.sample(sheet.creases, random.randrange(min(len(sheet.creases), 7) + 1))
                for crease in (None, *sheet.creases[::7]):
                    wanted = locks_by_equations(sheet, lot, crease)
                    self.check(sheet, lot, crease, wanted)
                    self.check(sheet, tuple(lot[::-1]), crease, wanted)
                    kinds.add((wanted, crease is None))
        self.assertEqual(len(kinds), 4)

    def test_empty_and_all(self):
        for sheet in [*small_sheets(), *large_sheets(), kites(9), chain_net(9)]:
            self.check(sheet, (), None, motions(sheet) == [()])
            self.check(sheet, sheet.creases, None, True)
            still = still_creases(sheet)
            for crease in sheet.creases[::6]:
                self.check(sheet, [], crease, crease in still)
                self.check(sheet, [crease], crease, True)

    def test_told_ones(self):
        for crease in star().creases:
            self.check(star(), [crease], None, True)
        sheet = grid(2, 2)
        self.check(sheet, [(1, 4)], None, False)
        self.check(sheet, [(1, 4)], (4, 7), True)
        self.check(sheet, [(1, 4)], (4, 5), False)
        self.check(sheet, [(4, 5), (1, 4)], None, True)

    def test_crease_left_out(self):
        self.assertIs(locks(star(), [(0, 1)]), True)
        self.assertIs(locks(grid(2, 2), [(1, 4)]), False)
        self.assertIsNotNone(slip(grid(2, 2), [(1, 4)]))
        self.assertIs(locks(grid(2, 2), [(1, 4)], (4, 7)), True)
        self.assertIs(locks(grid(2, 2), [(1, 4)], crease=(4, 7)), True)
        self.assertIsNone(slip(crease=(4, 7), lot=[(1, 4)], sheet=grid(2, 2)))
        self.assertIs(locks(crease=None, lot=[(1, 4)], sheet=grid(2, 2)), False)
        self.assertIs(locks(single(), []), True)
        self.assertIsNone(slip(single(), ()))

    def test_bad_lot_ahead_of_no_crease(self):
        for wrong in [
            *wrong_things(), [(0, 1), (0, 1)], [(1, 0)], [[0, 1]], [(False, 1)], [(0, 5)], (0, 1), [(0, 1), None],
            {(0, 1): 1}, "01",
        ]:
            if wrong in ((), []):
                continue
            for call in (locks, slip):
                for crease in (None, (0, 1), (1, 0)):
                    with self.assertRaises(BadLot, msg=wrong):
                        call(star(), wrong, crease)
        for wrong in [*wrong_things(), (1, 0), [0, 1], (False, 1), (0, True), (0, 5)]:
            if wrong is not None:
                for call in (locks, slip):
                    with self.assertRaises(NoCrease, msg=wrong):
                        call(star(), [], wrong)

    def test_unchanged(self):
        lot = [(4, 5), (1, 4)]
        self.assertIs(unchanged(self, locks, grid(2, 2), lot), True)
        self.assertIsNone(unchanged(self, slip, grid(2, 2), lot))


class LeastTest(unittest.TestCase):
    def test_by_trying_all(self):
        for sheet in few_creases()[:-1]:
            some = [lot for many in range(len(sheet.creases) + 1) for lot in combinations(sheet.creases, many)]
            for crease in (None, *sheet.creases[::4]):
                good = [lot for lot in some if locks(sheet, lot, crease)]
                wanted = [lot for lot in good if not any(set(other) < set(lot) for other in good)]
                found = least_locks(sheet, crease)
                self.assertIs(type(found), list)
                self.assertEqual(found, wanted)
                self.assertEqual(found, sorted(found, key=lambda lot: (len(lot), lot)))

    def test_told_ones(self):
        self.assertEqual(least_locks(star()), [(crease,) for crease in star().creases])
        self.assertEqual(least_locks(star(), (0, 2)), [(crease,) for crease in star().creases])
        self.assertEqual(least_locks(grid(2, 2)), [((1, 4), (3, 4)), ((1, 4), (4, 5)), ((3, 4), (4, 7)), ((4, 5), (4, 7))])
        self.assertEqual(least_locks(grid(2, 2), (4, 5)), [((3, 4),), ((4, 5),)])
        self.assertEqual(least_locks(single()), [()])
        self.assertEqual(least_locks(ladder(11)), [ladder(11).creases])

    def test_a_crease_that_never_folds(self):
        found = 0
        for sheet in few_creases():
            for crease in still_creases(sheet):
                self.assertEqual(least_locks(sheet, crease), [()])
                self.assertEqual(cheapest_lock(sheet, dict.fromkeys(sheet.creases, 3), crease), (0, ()))
                found += 1
        self.assertEqual(found, 9 + 6 + 3)

    def test_crease_and_then_too_many(self):
        self.assertEqual(len(least_locks(chain_net(3))), len(least_locks(chain_net(3), None)))
        for sheet in (ladder(12), small_fold_net(), fold_net(), half_stiff()):
            prices = dict.fromkeys(sheet.creases, 1)
            for crease in (None, sheet.creases[0]):
                for call in (lambda: least_locks(sheet, crease), lambda: cheapest_lock(sheet, prices, crease)):
                    with self.assertRaises(TooMany) as caught:
                        call()
                    self.assertEqual(caught.exception.most, 10)
            for wrong in ((1, 0), False, (0, 0), "a"):
                with self.assertRaises(NoCrease):
                    least_locks(sheet, wrong)
                with self.assertRaises(NoCrease):
                    cheapest_lock(sheet, prices, wrong)
            with self.assertRaises(BadPrices):
                cheapest_lock(sheet, {}, (1, 0))
        for wrong in [*wrong_things(), (1, 0), [0, 1], (False, 1), (0, 5)]:
            if wrong is not None:
                with self.assertRaises(NoCrease, msg=wrong):
                    least_locks(star(), wrong)

    def test_lists_are_new_and_names(self):
        first = least_locks(crease=None, sheet=star())
        first.append(7)
        self.assertEqual(least_locks(sheet=star()), first[:-1])


class PricesTest(unittest.TestCase):
    def test_by_trying_all(self):
        random = Random(13)
        for sheet in few_creases():
            some = [lot for many in range(len(sheet.creases) + 1) for lot in combinations(sheet.creases, many)]
            for crease in (None, *sheet.creases[:2]):
                good = [lot for lot in some if locks(sheet, lot, crease)]
                for most in (1, 3, DIGITS_40):
                    keys = random.sample(sheet.creases, len(sheet.creases))
                    prices = {key: random.randrange(most + 1) for key in keys}
                    wanted = min((sum(prices[glued] for glued in lot), len(lot), lot) for lot in good)
                    self.assertEqual(cheapest_lock(sheet, prices, crease), (wanted[0], wanted[2]))

    def test_told_ones(self):
        creases = star().creases
        self.assertEqual(cheapest_lock(star(), dict(zip(creases, (4, 2, 3, 2)))), (2, ((0, 2),)))
        self.assertEqual(cheapest_lock(star(), dict(zip(creases, (0, 0, 0, 0)))), (0, ((0, 1),)))
        sheet = grid(2, 2)
        prices = {(1, 4): 5, (3, 4): 1, (4, 5): 1, (4, 7): 5}
        self.assertEqual(cheapest_lock(sheet, prices), (6, ((1, 4), (3, 4))))
        self.assertEqual(cheapest_lock(sheet, dict(list(prices.items())[::-1]), None), (6, ((1, 4), (3, 4))))
        self.assertEqual(cheapest_lock(sheet, prices, (4, 7)), (5, ((1, 4),)))
        self.assertEqual(cheapest_lock(sheet, {**prices, (4, 7): 0}, crease=(1, 4)), (0, ((4, 7),)))
        self.assertEqual(cheapest_lock(single(), {}), (0, ()))

    def test_bad_prices(self):
        good = dict.fromkeys(star().creases, 2)
        short = {crease: 2 for crease in star().creases[1:]}
        for wrong in [
            *wrong_things(), short, {**good, (1, 5): 1}, {**good, "a": 1}, {**short, (1, 0): 2}, {**short, (False, 1): 2},
            {**good, (0, 1): -1}, {**good, (0, 1): True}, {**good, (0, 1): None}, {**good, (0, 1): (1, 1)},
            {**good, (0, 4): "1"}, {**good, (0, 4): [1]}, list(good), list(good.items()), tuple(good), {**short, None: 2},
            {**short, (0, True): 2}, {**short, (0, 1, 0): 2}, {**good, (0, 1): DIGITS_40 * -1},
        ]:
            for crease in (None, (0, 1), (1, 0), 7):
                with self.assertRaises(BadPrices, msg=wrong):
                    cheapest_lock(star(), wrong, crease)
        with self.assertRaises(BadPrices):
            cheapest_lock(single(), {(0, 1): 1})
        for wrong in [*wrong_things(), (1, 0), [0, 1], (False, 1), (0, 5)]:
            if wrong is not None:
                with self.assertRaises(NoCrease, msg=wrong):
                    cheapest_lock(star(), good, wrong)

    def test_by_name_and_unchanged(self):
        prices = dict.fromkeys(star().creases, 2)
        self.assertEqual(cheapest_lock(crease=(0, 1), prices=prices, sheet=star()), (2, ((0, 1),)))
        self.assertEqual(unchanged(self, cheapest_lock, star(), prices), (2, ((0, 1),)))
        sheet = with_fins(kites(1), 2)
        self.assertEqual(cheapest_lock(sheet, dict.fromkeys(sheet.creases, 1))[0], len(least_locks(sheet)[0]))
        self.assertEqual(len(rhombs(2).creases), 9)


if __name__ == "__main__":
    unittest.main()
