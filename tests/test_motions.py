"""[4.2] to [4.5] Spaces of choices, motions, and creases that fold."""
import unittest
from fractions import Fraction
from itertools import product

from fourcreases.errors import BadChoice, NoCrease, NoStand
from fourcreases.motions import (
    bar_of, can_fold, folded, hands, motions, motions_with, one_motion, space_of, still_creases,
)
from fourcreases.stands import is_stand
from tests.makers import (
    FOLD_CHOICE, angles_net, fold_net, grid, ladder, net, rhombs, single, small_fold_net, star,
    stiff_net, uneven_nets, wide_star, with_fins, zigzag,
)
from tests.reckoning import all_motions, choice_space, corner_mn, lies_in, sum_of
from tests.things import DIGITS_40, unchanged, wrong_things

STAR_SPACES = [
    (((1, 1), (-1, 2), (1, 1), (1, 2)),),
    (((1, 1), (2, 1), (-1, 1), (2, 1)),),
]


def half_stiff():
    """A stiff plate within, glued to a chain of corners that folds, and a crease with both ends on the rim."""
    table = angles_net([(Fraction(9, 10), Fraction(11, 10)), (Fraction(10, 11), 1)],
                       [(Fraction(9, 10), Fraction(11, 10)), (1, Fraction(9, 8))], [[Fraction(14, 13)]])
    return with_fins(net(table, [2], [2], Fraction(1)), 2)


def small_sheets():
    return [
        star(), grid(1, 1), grid(2, 1), grid(2, 2), grid(3, 3), zigzag(2, 3), zigzag(3, 3), rhombs(3), small_fold_net(),
        half_stiff(), ladder(6), single(), with_fins(small_fold_net(), 4), wide_star(8), grid(3, 2), zigzag(4, 3),
        *uneven_nets(),
    ]


def large_sheets():
    return [fold_net(), stiff_net(), grid(4, 4), zigzag(4, 4), rhombs(9), with_fins(fold_net(), 14), ladder(40)]


def choices_of(sheet):
    return list(product((1, 2), repeat=len(sheet.inner)))


def flat(sheet):
    return ((0, 1),) * len(sheet.creases)


class SpaceTest(unittest.TestCase):
    def test_document(self):
        self.assertEqual(space_of(star(), [2]), (((1, 1), (2, 1), (-1, 1), (2, 1)),))
        self.assertEqual([space_of(star(), (1,)), space_of(star(), (2,))], STAR_SPACES)

    def test_by_its_definition(self):
        for sheet in small_sheets():
            for choice in choices_of(sheet):
                self.assertEqual(space_of(sheet, choice), choice_space(sheet, choice))

    def test_large_sheets(self):
        for sheet in large_sheets():
            for choice in choices_of(sheet)[::101]:
                self.assertEqual(space_of(sheet, list(choice)), choice_space(sheet, choice))
        self.assertEqual(space_of(fold_net(), FOLD_CHOICE), choice_space(fold_net(), FOLD_CHOICE))
        self.assertEqual(len(space_of(fold_net(), FOLD_CHOICE)), 1)

    def test_reduced(self):
        for sheet in small_sheets() + large_sheets():
            for choice in choices_of(sheet)[::37]:
                rows = space_of(sheet, choice)
                self.assertIs(type(rows), tuple)
                heads = [next(k for k, x in enumerate(row) if x != (0, 1)) for row in rows]
                self.assertEqual(heads, sorted(set(heads)))
                for head in heads:
                    self.assertEqual(sorted(row[head] for row in rows), [(0, 1)] * (len(rows) - 1) + [(1, 1)])

    def test_without_inner_corners(self):
        self.assertEqual(space_of(single(), []), ())
        self.assertEqual(space_of(ladder(3), ()), (((1, 1), (0, 1)), ((0, 1), (1, 1))))

    def test_wrong_choices(self):
        for call in (space_of, bar_of):
            for wrong in [
                *wrong_things(), [], [1, 2], [0], [3], [True], [False], ["1"], [None], [(1,)], [[1]], {0: 1}, {1: 1},
                "1", 1, 2, [-1], [DIGITS_40], [(1, 1)], (1, 1),
            ]:
                with self.assertRaises(BadChoice, msg=wrong):
                    call(star(), wrong)
            with self.assertRaises(BadChoice):
                call(single(), [1])
            with self.assertRaises(BadChoice):
                call(grid(3, 3), [1, 2, 1, True])
            with self.assertRaises(BadChoice):
                call(grid(3, 3), [1, 2, 1])

    def test_by_name_and_unchanged(self):
        self.assertEqual(space_of(choice=[1], sheet=star()), STAR_SPACES[0])
        self.assertEqual(unchanged(self, space_of, star(), [1]), STAR_SPACES[0])
        self.assertIsNone(bar_of(choice=[1], sheet=star()))
        self.assertIsNone(unchanged(self, bar_of, star(), [1]))


class BarTest(unittest.TestCase):
    def test_document(self):
        self.assertIsNone(bar_of(star(), [1]))

    def test_corner(self):
        self.assertEqual(bar_of(grid(3, 3), [1, 1, 1, 1]), ("corner", 5))
        sheet = zigzag(4, 4)
        for choice in choices_of(sheet)[::7]:
            noughts = [
                corner for corner, pick in zip(sheet.inner, choice) if corner_mn(sheet, corner)[pick - 1] == 0
            ]
            if noughts:
                self.assertEqual(bar_of(sheet, choice), ("corner", noughts[0]))
            else:
                self.assertNotEqual((bar_of(sheet, choice) or ("plate",))[0], "corner")

    def test_a_corner_goes_ahead_of_a_plate(self):
        sheet = zigzag(3, 3)
        found = {bar_of(sheet, choice) for choice in choices_of(sheet)}
        self.assertIn(("corner", sheet.inner[-1]), found)

    def test_plate(self):
        sheet = stiff_net()
        for choice in choices_of(sheet)[::19]:
            self.assertEqual(bar_of(sheet, choice), ("plate", self.first_open_plate(sheet, choice)))

    def first_open_plate(self, sheet, choice):
        """The first plate wholly within round which numbers do not go round once."""
        for number in sheet.inside:
            plate = sheet.plates[number]
            value = Fraction(1)
            for k, corner in enumerate(plate):
                m, n = corner_mn(sheet, corner)
                line = (1, -m, 1, m) if choice[sheet.inner.index(corner)] == 1 else (-n, 1, n, 1)
                has = dict(zip(sheet.around(corner), line))
                onward = tuple(sorted((corner, plate[(k + 1) % len(plate)])))
                value = value * has[onward] / has[tuple(sorted((corner, plate[k - 1])))]
            if value != 1:
                return number
        return None

    def test_second_fact(self):
        for sheet in small_sheets() + [fold_net(), stiff_net()]:
            for choice in choices_of(sheet)[::3]:
                bar = bar_of(sheet, choice)
                rows = space_of(sheet, choice)
                moving = {k for row in rows for k, x in enumerate(row) if x != (0, 1)}
                self.assertEqual(bar is None, len(moving) == len(sheet.creases), (bar, rows))
                if bar is not None and bar[0] == "plate":
                    self.assertEqual(bar[1], self.first_open_plate(sheet, choice))

    def test_none(self):
        self.assertIsNone(bar_of(fold_net(), FOLD_CHOICE))
        self.assertIsNone(bar_of(single(), []))
        self.assertIsNone(bar_of(ladder(9), ()))
        self.assertEqual([bar_of(small_fold_net(), choice) for choice in choices_of(small_fold_net())].count(None), 1)


class MotionsTest(unittest.TestCase):
    def test_document(self):
        self.assertEqual(len(motions(star())), 2)
        self.assertEqual(motions(star()), STAR_SPACES)

    def test_by_their_definition(self):
        for sheet in small_sheets():
            self.assertEqual(motions(sheet), all_motions(sheet))

    def test_nothing_folds(self):
        self.assertEqual(motions(stiff_net()), [()])
        self.assertEqual(hands(stiff_net()), [0])
        self.assertEqual(motions(single()), [()])
        self.assertEqual(hands(single()), [0])

    def test_without_inner_corners(self):
        self.assertEqual(motions(grid(2, 1)), [(((1, 1),),)])
        self.assertEqual(hands(ladder(40)), [39])

    def test_large_sheets(self):
        self.assertEqual(motions(fold_net()), [space_of(fold_net(), FOLD_CHOICE)])
        self.assertEqual(hands(grid(4, 4)), [3, 3])
        self.assertEqual(hands(rhombs(9)), [17] * 512)
        self.assertEqual(motions(rhombs(9)), [space_of(rhombs(9), choice) for choice in choices_of(rhombs(9))])
        self.assertEqual(hands(zigzag(4, 4)), [3] + [1] * 7)

    def test_order_of_least_choices(self):
        for sheet in small_sheets() + [zigzag(4, 4), grid(4, 4)]:
            spaces = [space_of(sheet, choice) for choice in choices_of(sheet)]
            least = [spaces.index(motion) for motion in motions(sheet)]
            self.assertEqual(least, sorted(set(least)))

    def test_none_within_another(self):
        for sheet in small_sheets() + [zigzag(4, 4), grid(4, 4), half_stiff()]:
            found = motions(sheet)
            for one, other in product(found, repeat=2):
                if one != other:
                    self.assertFalse(all(lies_in(row, other) for row in one))
            for choice in choices_of(sheet):
                space = space_of(sheet, choice)
                self.assertTrue(any(all(lies_in(row, motion) for row in space) for motion in found))

    def test_hands(self):
        for sheet in small_sheets() + large_sheets():
            self.assertEqual(hands(sheet), [len(rows) for rows in motions(sheet)])

    def test_lists_are_new(self):
        sheet = star()
        for call in (motions, hands, still_creases):
            first = call(sheet)
            self.assertIs(type(first), list)
            first.append(7)
            self.assertEqual(call(sheet), first[:-1])
        first = motions_with(sheet, flat(sheet))
        first.append(7)
        self.assertEqual(motions_with(sheet, flat(sheet)), [0, 1])

    def test_by_name(self):
        self.assertEqual(motions(sheet=star()), STAR_SPACES)
        self.assertEqual(hands(sheet=star()), [1, 1])
        self.assertEqual(still_creases(sheet=star()), [])


class MotionsWithTest(unittest.TestCase):
    def test_flat(self):
        for sheet in small_sheets() + large_sheets():
            self.assertEqual(motions_with(sheet, flat(sheet)), list(range(len(motions(sheet)))))

    def test_of_one(self):
        for place, rows in enumerate(STAR_SPACES):
            self.assertEqual(motions_with(star(), rows[0]), [place])
            self.assertEqual(motions_with(star(), list(sum_of(rows, [Fraction(-3, 7)], 4))), [place])

    def test_of_several(self):
        for sheet in small_sheets() + [zigzag(4, 4), rhombs(5), fold_net()]:
            found = motions(sheet)
            for rows in found:
                for row in rows:
                    wanted = [place for place, motion in enumerate(found) if lies_in(row, motion)]
                    self.assertEqual(motions_with(sheet, row), wanted)
        sheet = rhombs(3)
        corner = sheet.inner[1]
        numbers = [(0, 1)] * len(sheet.creases)
        for crease in sheet.around(corner)[::2]:
            numbers[sheet.creases.index(crease)] = (5, 3)
        self.assertEqual(motions_with(sheet, numbers), [0, 1, 4, 5])

    def test_wrong(self):
        for wrong in [*wrong_things(), [(1, 1)] * 4, [(0, 1)] * 3, [(0, 1)] * 5, [(0, 1)] * 3 + [None]]:
            with self.assertRaises(NoStand, msg=wrong):
                motions_with(star(), wrong)

    def test_by_name_and_unchanged(self):
        self.assertEqual(motions_with(numbers=flat(star()), sheet=star()), [0, 1])
        self.assertEqual(unchanged(self, motions_with, star(), list(flat(star()))), [0, 1])


class FoldedTest(unittest.TestCase):
    def test_stands_with_one(self):
        for sheet in small_sheets() + large_sheets():
            still = still_creases(sheet)
            self.assertEqual(still, sorted(still))
            for place, crease in enumerate(sheet.creases):
                numbers = folded(sheet, crease)
                self.assertIs(can_fold(sheet, crease), crease not in still)
                self.assertEqual(numbers is None, crease in still)
                if numbers is not None:
                    self.assertIs(type(numbers), tuple)
                    self.assertTrue(is_stand(sheet, numbers))
                    self.assertEqual(numbers[place], (1, 1))

    def test_still_by_its_definition(self):
        for sheet in small_sheets():
            moving = {k for rows in all_motions(sheet) for row in rows for k, x in enumerate(row) if x != (0, 1)}
            wanted = [crease for k, crease in enumerate(sheet.creases) if k not in moving]
            self.assertEqual(still_creases(sheet), wanted)

    def test_told_ones(self):
        self.assertEqual(still_creases(stiff_net()), list(stiff_net().creases))
        self.assertEqual(still_creases(fold_net()), [])
        self.assertEqual(still_creases(single()), [])
        fins = half_stiff()
        self.assertEqual(len(still_creases(fins)), len(fins.creases) - 2)

    def test_wrong_creases(self):
        for call in (folded, can_fold):
            for wrong in [*wrong_things(), (1, 0), [0, 1], (1, 5), (False, 1), (0, True), (0, 1, 2), (9, 10), "01"]:
                with self.assertRaises(NoCrease, msg=wrong):
                    call(star(), wrong)
            with self.assertRaises(NoCrease):
                call(single(), (0, 1))

    def test_by_name(self):
        self.assertEqual(folded(crease=(0, 1), sheet=star())[0], (1, 1))
        self.assertIs(can_fold(crease=(0, 1), sheet=star()), True)


class OneMotionTest(unittest.TestCase):
    def test_no_stands(self):
        for sheet in small_sheets():
            self.assertEqual(one_motion(sheet, []), 0)
            self.assertEqual(one_motion(sheet, ()), 0)

    def test_in_common(self):
        one, other = STAR_SPACES[0][0], STAR_SPACES[1][0]
        self.assertEqual(one_motion(star(), [one, flat(star())]), 0)
        self.assertEqual(one_motion(star(), [other, flat(star()), other]), 1)
        self.assertEqual(one_motion(star(), (list(other),)), 1)
        self.assertEqual(one_motion(star(), [flat(star())]), 0)
        self.assertIsNone(one_motion(star(), [one, other]))
        self.assertIsNone(one_motion(star(), [flat(star()), other, one]))

    def test_by_its_definition(self):
        for sheet in (zigzag(3, 3), rhombs(3), grid(3, 3), small_fold_net(), half_stiff()):
            found = motions(sheet)
            stands = [row for rows in found for row in rows[:2]]
            for one, other in product(stands[:12], repeat=2):
                wanted = [k for k, rows in enumerate(found) if lies_in(one, rows) and lies_in(other, rows)]
                self.assertEqual(one_motion(sheet, [one, other]), wanted[0] if wanted else None)

    def test_many_stands(self):
        sheet = rhombs(9)
        row = space_of(sheet, (2,) * 9)[0]
        stands = [sum_of([row], [Fraction(k, 7)], len(row)) for k in range(700)]
        self.assertEqual(one_motion(sheet, stands), 256)

    def test_wrong(self):
        for wrong in wrong_things():
            if wrong not in ([], ()):
                with self.assertRaises(NoStand, msg=wrong):
                    one_motion(star(), wrong)
            with self.assertRaises(NoStand, msg=wrong):
                one_motion(star(), [flat(star()), wrong])
        for wrong in ([[(1, 1)] * 4], [flat(star()), [(1, 1)] * 4], flat(star()), {0: flat(star())}):
            with self.assertRaises(NoStand):
                one_motion(star(), wrong)

    def test_by_name_and_unchanged(self):
        self.assertEqual(one_motion(stands=[flat(star())], sheet=star()), 0)
        self.assertEqual(unchanged(self, one_motion, star(), [list(flat(star()))]), 0)


if __name__ == "__main__":
    unittest.main()
