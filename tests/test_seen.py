"""[9.1], [9.2] Numbers that were seen."""
import unittest
from fractions import Fraction
from itertools import product
from random import Random

from fourcreases.errors import BadTold, NoCrease, NoFit
from fourcreases.motions import motions
from fourcreases.seen import fitting, is_unfit_tree, sure_number, two_fitting, unfit_tree
from fourcreases.stands import is_stand
from tests.makers import (
    chain_net, fold_net, grid, kites, ladder, pair, rhombs, single, small_fold_net, star, stiff_net, triangle_nets,
    with_fins, worth, zigzag,
)
from tests.reckoning import fits_in, sum_of, told_space
from tests.test_motions import half_stiff, large_sheets, small_sheets
from tests.test_trees import LEAF, chain_tree, depth_of, ends_of, full_tree
from tests.things import DIGITS_40, unchanged, wrong_things


def some_stand(sheet, random):
    rows = random.choice(motions(sheet))
    factors = [Fraction(random.randrange(-3, 4), random.randrange(1, 5)) for _ in rows]
    return sum_of(rows, factors, len(sheet.creases))


def some_told(sheet, random):
    """Numbers of a stand at some creases, sometimes with others of another stand or one that is changed."""
    told = {}
    one, other = some_stand(sheet, random), some_stand(sheet, random)
    places = random.sample(range(len(sheet.creases)), min(len(sheet.creases), random.randrange(6)))
    kind = random.randrange(4)
    for place in places:
        told[sheet.creases[place]] = (other if kind == 3 and random.random() < 0.5 else one)[place]
    if told and kind == 2:
        crease = random.choice(list(told))
        told[crease] = pair(worth(told[crease]) + Fraction(1, random.randrange(1, 4)))
    return told


def by_place(sheet, told):
    return {sheet.creases.index(crease): number for crease, number in told.items()}


def fits_of(sheet, told):
    """All that fits, motion by motion, by linear equations."""
    found = [fits_in(rows, by_place(sheet, told), len(sheet.creases)) for rows in motions(sheet)]
    return [fit for fit in found if fit is not None]


def has_told(sheet, told, numbers):
    return type(numbers) is tuple and is_stand(sheet, numbers) and all(
        numbers[place] == number for place, number in by_place(sheet, told).items())


def is_unfit(sheet, told, tree):
    """Judge a tree by the words of the document."""
    return all(
        end == LEAF and fits_in(told_space(sheet, way), by_place(sheet, told), len(sheet.creases)) is None
        for way, end in ends_of(tree)
    )


def cases(many):
    for sheet in [*small_sheets(), *triangle_nets(), fold_net(), stiff_net(), zigzag(4, 4), kites(3), chain_net(4)]:
        random = Random(3)
        for _ in range(many):
            yield sheet, some_told(sheet, random)


class FittingTest(unittest.TestCase):
    def test_by_linear_equations(self):
        kinds = set()
        for sheet, told in cases(12):
            found = fitting(sheet, told)
            wanted = fits_of(sheet, told)
            self.assertEqual(found is None, not wanted)
            if found is not None:
                self.assertTrue(has_told(sheet, told, found))
            kinds.add(found is None)
        self.assertEqual(kinds, {True, False})

    def test_nothing_told(self):
        for sheet in small_sheets() + large_sheets():
            self.assertTrue(has_told(sheet, {}, fitting(sheet, {})))
            self.assertIsNone(unfit_tree(sheet, {}))
        self.assertEqual(fitting(single(), {}), ())

    def test_all_told(self):
        random = Random(4)
        for sheet in [*small_sheets(), *triangle_nets(), chain_net(9), kites(9), with_fins(fold_net(), 14)]:
            numbers = some_stand(sheet, random)
            told = dict(zip(sheet.creases, numbers))
            self.assertEqual(fitting(sheet, told), numbers)
            for place in range(0, len(numbers), 11):
                crease = sheet.creases[place]
                changed = {**told, crease: pair(worth(told[crease]) + 1)}
                free = not set(crease) & set(sheet.inner)
                self.assertEqual(fitting(sheet, changed) is not None, free)
                if not free:
                    self.check_unfit(sheet, changed)
                del changed[crease]
                self.assertTrue(has_told(sheet, changed, fitting(sheet, changed)))

    def check_unfit(self, sheet, told):
        tree = unfit_tree(sheet, told)
        self.assertLessEqual(depth_of(tree), 12)
        self.assertIs(is_unfit_tree(sheet, told, tree), True)
        self.assertTrue(is_unfit(sheet, told, tree))

    def test_the_order_of_keys_does_not_matter(self):
        for sheet, told in cases(4):
            turned = {crease: told[crease] for crease in list(told)[::-1]}
            self.assertEqual(fitting(sheet, turned), fitting(sheet, told))
            self.assertEqual(unfit_tree(sheet, turned), unfit_tree(sheet, told))
            if fitting(sheet, told) is not None and sheet.creases:
                crease = sheet.creases[-1]
                self.assertEqual(two_fitting(sheet, turned, crease), two_fitting(sheet, told, crease))

    def test_told_ones(self):
        self.assertEqual(fitting(star(), {(0, 1): (4, 1), (0, 2): (-2, 1)}), ((4, 1), (-2, 1), (4, 1), (2, 1)))
        self.assertEqual(fitting(star(), {(0, 3): (1, 3), (0, 1): (-1, 3)}), ((-1, 3), (-2, 3), (1, 3), (-2, 3)))
        self.assertIsNone(fitting(star(), {(0, 1): (1, 1), (0, 2): (1, 1)}))
        self.assertEqual(fitting(star(), {(0, 4): (0, 1)}), ((0, 1),) * 4)
        self.assertIsNone(fitting(stiff_net(), {stiff_net().creases[4]: (1, DIGITS_40)}))

    def test_numbers_of_forty_digits(self):
        sheet = chain_net(9)
        factor = Fraction(DIGITS_40, 10 ** 39 - 1)
        numbers = sum_of(motions(sheet)[77], [factor], len(sheet.creases))
        told = {sheet.creases[place]: numbers[place] for place in (0, 5, 12, 27)}
        self.assertTrue(has_told(sheet, told, fitting(sheet, told)))
        told[sheet.creases[3]] = (DIGITS_40, 3)
        self.assertIsNone(fitting(sheet, told))
        self.check_unfit(sheet, told)


class SureTest(unittest.TestCase):
    def test_by_linear_equations(self):
        kinds = set()
        for sheet, told in cases(6):
            fits = fits_of(sheet, told)
            for place, crease in list(enumerate(sheet.creases))[::5]:
                if not fits:
                    for call in (sure_number, two_fitting):
                        with self.assertRaises(NoFit):
                            call(sheet, told, crease)
                    continue
                sure = len({some[place] for some, _ in fits}) == 1 and not any(
                    row[place] for _, free in fits for row in free)
                number, two = sure_number(sheet, told, crease), two_fitting(sheet, told, crease)
                self.assertEqual(number, pair(fits[0][0][place]) if sure else None)
                self.assertEqual(two is None, sure)
                if two is not None:
                    self.assertIs(type(two), tuple)
                    self.assertEqual(len(two), 2)
                    self.assertTrue(has_told(sheet, told, two[0]) and has_told(sheet, told, two[1]))
                    self.assertNotEqual(two[0][place], two[1][place])
                kinds.add((sure, len(fits) > 1))
        self.assertEqual(len(kinds), 4)

    def test_told_ones(self):
        self.assertEqual(sure_number(star(), {(0, 1): (4, 1), (0, 2): (-2, 1)}, (0, 3)), (4, 1))
        self.assertIsNone(sure_number(star(), {(0, 1): (4, 1)}, (0, 3)))
        self.assertEqual(sure_number(star(), {(0, 1): (0, 1)}, (0, 3)), (0, 1))
        self.assertEqual(sure_number(star(), {(0, 1): (4, 1)}, (0, 1)), (4, 1))
        self.assertIsNone(sure_number(star(), {}, (0, 1)))
        one, other = two_fitting(star(), {(0, 1): (4, 1)}, (0, 3))
        self.assertEqual({one, other}, {((4, 1), (-2, 1), (4, 1), (2, 1)), ((4, 1), (8, 1), (-4, 1), (8, 1))})
        self.assertEqual(sure_number(stiff_net(), {}, stiff_net().creases[3]), (0, 1))
        self.assertIsNone(two_fitting(stiff_net(), {}, stiff_net().creases[3]))

    def test_large_sheets(self):
        for sheet in [*large_sheets(), kites(9), chain_net(9)]:
            random = Random(6)
            numbers = some_stand(sheet, random)
            told = {sheet.creases[place]: numbers[place] for place in range(0, len(numbers), 5)}
            for place, crease in list(enumerate(sheet.creases))[::4]:
                number, two = sure_number(sheet, told, crease), two_fitting(sheet, told, crease)
                self.assertEqual(number is None, two is not None)
                if number is not None:
                    self.assertEqual(number, numbers[place])
                else:
                    self.assertTrue(has_told(sheet, told, two[0]) and has_told(sheet, told, two[1]))
                    self.assertNotEqual(two[0][place], two[1][place])


class TreeTest(unittest.TestCase):
    def test_just_one_of_a_stand_and_a_tree(self):
        found = 0
        for sheet, told in cases(8):
            stand, tree = fitting(sheet, told), unfit_tree(sheet, told)
            self.assertEqual(stand is None, tree is not None)
            if tree is not None:
                found += 1
                self.assertLessEqual(depth_of(tree), 12)
                self.assertIs(is_unfit_tree(sheet, told, tree), True)
                self.assertTrue(is_unfit(sheet, told, tree))
            else:
                for thing in (LEAF, full_tree(sheet.inner[:3], LEAF)):
                    self.assertIs(is_unfit_tree(sheet, told, thing), False)
        self.assertGreater(found, 20)

    def test_deep_trees(self):
        sheet = chain_net(9)
        told = {sheet.around(sheet.inner[0])[0]: (1, 1), sheet.around(sheet.inner[8])[2]: (DIGITS_40, 1)}
        self.assertIsNone(fitting(sheet, told))
        tree = unfit_tree(sheet, told)
        self.assertEqual(depth_of(tree), 10)
        self.assertIs(is_unfit_tree(sheet, told, tree), True)

    def test_many_trees_are_judged_rightly(self):
        kinds = set()
        for sheet, told in (
            (star(), {(0, 1): (1, 1), (0, 2): (1, 1)}), (star(), {(0, 1): (1, 1), (0, 2): (2, 1)}),
            (rhombs(2), {rhombs(2).around(0)[0]: (1, 1), rhombs(2).around(0)[1]: (1, 1)}),
            (small_fold_net(), {small_fold_net().creases[0]: (1, 1), small_fold_net().creases[1]: (1, 7)}),
            (zigzag(3, 3), {zigzag(3, 3).creases[0]: (1, 1), zigzag(3, 3).creases[2]: (3, 1)}),
        ):
            inner = sheet.inner
            some = [full_tree(inner[:k], LEAF) for k in range(len(inner) + 1)]
            some += [("split", inner[-1], one, other) for one, other in product(some[:3], repeat=2)]
            some += [("split", inner[0], one, other) for one, other in product(some[-3:], repeat=2)]
            for tree in some:
                wanted = is_unfit(sheet, told, tree)
                self.assertIs(is_unfit_tree(sheet, told, tree), wanted)
                kinds.add(wanted)
        self.assertEqual(kinds, {True, False})

    def test_at_most_twelve_deep(self):
        # A corner on both its lines has nothing but zeros, so the chain ends rightly wherever it is long enough.
        told = {(0, 1): (1, 1), (0, 2): (1, 1)}
        good = full_tree([0], LEAF)
        self.assertIs(is_unfit_tree(star(), told, good), True)
        for deep, wanted in ((12, True), (13, False), (30, False)):
            tree = chain_tree(deep, 0, LEAF)
            self.assertIs(is_unfit_tree(star(), told, tree), wanted, deep)
        self.assertIs(is_unfit_tree(star(), told, full_tree([0] * 11, LEAF)), True)
        self.assertIs(is_unfit_tree(star(), told, full_tree([0] * 12, LEAF)), False)

    def test_wrong_trees(self):
        told = {(0, 1): (1, 1), (0, 2): (1, 1)}
        good = unfit_tree(star(), told)
        self.assertEqual(good, ("split", 0, LEAF, LEAF))
        for thing in [
            *wrong_things(), LEAF, list(good), ("split", 0, ["leaf"], LEAF), ("split", 0, LEAF, ("leaf", 0)),
            ("split", False, LEAF, LEAF), ("split", 1, LEAF, LEAF), ("split", -1, LEAF, LEAF), ("split", 0, LEAF),
            ("split", 0, LEAF, LEAF, LEAF), ("split", 0, ("motion", 0), ("motion", 1)), ("split", 0, LEAF, ("motion", 0)),
            ("Split", 0, LEAF, LEAF), ("split", "0", LEAF, LEAF), ("split", 0, LEAF, None), (good,), {0: good},
            ("split", star(), LEAF, LEAF), ("split", [0], LEAF, LEAF), ("split", 10 ** 39, LEAF, LEAF),
        ]:
            if thing == LEAF and thing is not LEAF:
                continue
            self.assertIs(is_unfit_tree(star(), told, thing), False, thing)
        self.assertIs(is_unfit_tree(star(), told, good), True)


class WrongTest(unittest.TestCase):
    def wrong_told(self):
        return [
            *[thing for thing in wrong_things() if thing not in ({}, {(0, 1): (1, 2)})], {(1, 0): (1, 1)}, {(0, 5): (1, 1)}, {(1, 5): (1, 1)},
            {(False, 1): (1, 1)}, {(0, True): (1, 1)}, {(0, 1): (2, 2)}, {(0, 1): 1}, {(0, 1): [1, 1]}, {(0, 1): None},
            {(0, 1): (True, 1)}, {(0, 1): (1, 1), "a": (1, 1)}, {(0, 1): (1, 1), 0: (1, 1)}, {(0, 1, 2): (1, 1)},
            [((0, 1), (1, 1))], (((0, 1), (1, 1)),), {None: (1, 1)}, {(0, 1): (1, 1), (0, 2): (1, 0)},
            {(0, 2): (1, 1), (0, 1): {}}, {(): (1, 1)}, {NoFit(): (1, 1)},
        ]

    def test_bad_told(self):
        for wrong in self.wrong_told():
            for call in (fitting, unfit_tree):
                with self.assertRaises(BadTold, msg=wrong):
                    call(star(), wrong)
            for crease in ((0, 1), None):
                for call in (sure_number, two_fitting):
                    with self.assertRaises(BadTold, msg=wrong):
                        call(star(), wrong, crease)
                with self.assertRaises(BadTold, msg=wrong):
                    is_unfit_tree(star(), wrong, crease)

    def test_no_crease_ahead_of_no_fit(self):
        unfit = {(0, 1): (1, 1), (0, 2): (1, 1)}
        for call in (sure_number, two_fitting):
            for wrong in [*wrong_things(), (1, 0), [0, 1], (False, 1), (0, 5)]:
                for told in ({}, unfit):
                    with self.assertRaises(NoCrease, msg=wrong):
                        call(star(), told, wrong)
            with self.assertRaises(NoFit):
                call(star(), unfit, (0, 4))
            with self.assertRaises(NoCrease):
                call(single(), {}, (0, 1))

    def test_no_fit_in_another_part(self):
        sheet = rhombs(2)
        one, other = sheet.inner
        told = {sheet.around(one)[0]: (1, 1), sheet.around(one)[1]: (1, 1)}
        for crease in sheet.creases:
            for call in (sure_number, two_fitting):
                with self.assertRaises(NoFit):
                    call(sheet, told, crease)
        self.assertIs(is_unfit_tree(sheet, told, ("split", one, LEAF, LEAF)), True)
        self.assertIs(is_unfit_tree(sheet, told, ("split", other, LEAF, LEAF)), False)

    def test_by_name_and_unchanged(self):
        told = {(0, 1): (4, 1), (0, 2): (-2, 1)}
        numbers = fitting(told=told, sheet=star())
        self.assertEqual(unchanged(self, fitting, star(), told), numbers)
        self.assertEqual(sure_number(crease=(0, 3), told=told, sheet=star()), (4, 1))
        self.assertEqual(unchanged(self, sure_number, star(), told, (0, 3)), (4, 1))
        self.assertIsNone(two_fitting(crease=(0, 3), told=told, sheet=star()))
        self.assertIsNone(unchanged(self, two_fitting, star(), told, (0, 3)))
        self.assertIsNone(unfit_tree(told=told, sheet=star()))
        self.assertIs(is_unfit_tree(thing=LEAF, told=told, sheet=star()), False)
        unfit = {(0, 1): (1, 1), (0, 2): (1, 1)}
        tree = unchanged(self, unfit_tree, star(), unfit)
        self.assertIs(unchanged(self, is_unfit_tree, star(), unfit, tree), True)

    def test_creases_without_inner_ends(self):
        sheet = ladder(4)
        told = dict(zip(sheet.creases, ((1, 2), (DIGITS_40, 7))))
        self.assertEqual(fitting(sheet, told)[:2], ((1, 2), (DIGITS_40, 7)))
        self.assertEqual(sure_number(sheet, told, sheet.creases[1]), (DIGITS_40, 7))
        self.assertIsNone(sure_number(sheet, told, sheet.creases[2]))
        self.assertEqual(sure_number(half_stiff(), {}, half_stiff().creases[0]), (0, 1))
        self.assertTrue(has_told(grid(3, 3), {}, fitting(grid(3, 3), {})))


if __name__ == "__main__":
    unittest.main()
