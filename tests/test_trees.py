"""[5.1] to [5.3] Trees of cases."""
import unittest
from itertools import product

from fourcreases.errors import BadSpaces, NoCrease
from fourcreases.motions import motions, space_of, still_creases
from fourcreases.trees import all_tree, is_all_tree, is_never_tree, never_tree
from tests.makers import (
    FOLD_CHOICE, fold_net, grid, ladder, rhombs, single, small_fold_net, star, stiff_net, uneven_nets, with_fins, worth,
    zigzag,
)
from tests.reckoning import as_rows, echelon, lies_in, sum_of, told_space
from tests.test_motions import half_stiff, large_sheets, small_sheets
from tests.things import unchanged, wrong_things

LEAF = ("leaf",)


def depth_of(tree):
    return 1 + max(depth_of(tree[2]), depth_of(tree[3])) if tree[0] == "split" else 1


def ends_of(tree, told=()):
    """The pairs of what is told along the way to an end, and the end."""
    if tree[0] != "split":
        return [(told, tree)]
    return ends_of(tree[2], (*told, (tree[1], 1))) + ends_of(tree[3], (*told, (tree[1], 2)))


def is_never(sheet, crease, tree):
    """Judge a tree by the words of the document."""
    place = sheet.creases.index(crease)
    return all(
        end == LEAF and not any(row[place][0] for row in told_space(sheet, told)) for told, end in ends_of(tree)
    )


def is_all(sheet, spaces, tree):
    reduced = [as_rows(echelon([[worth(x) for x in row] for row in rows])) for rows in spaces]
    return all(
        end[0] == "motion" and end[1] < len(spaces)
        and all(lies_in(row, reduced[end[1]]) for row in told_space(sheet, told))
        for told, end in ends_of(tree)
    )


def full_tree(corners, end):
    if not corners:
        return end
    return ("split", corners[0], full_tree(corners[1:], end), full_tree(corners[1:], end))


def chain_tree(deep, corner, end):
    """A tree so many deep in which one corner is split again and again."""
    tree = end
    for _ in range(deep - 1):
        tree = ("split", corner, tree, end)
    return tree


def folding_crease():
    """A sheet with a crease that folds and one that does not."""
    sheet = half_stiff()
    still = still_creases(sheet)
    return sheet, [crease for crease in sheet.creases if crease not in still][0], still[0]


class NeverTreeTest(unittest.TestCase):
    def test_exactly_for_still_creases(self):
        for sheet in small_sheets() + large_sheets():
            still = still_creases(sheet)
            for crease in sheet.creases:
                tree = never_tree(sheet, crease)
                self.assertEqual(tree is None, crease not in still)
                if tree is not None:
                    self.assertIs(is_never_tree(sheet, crease, tree), True)
                    self.assertLessEqual(depth_of(tree), 12)

    def test_by_their_definition(self):
        for sheet in (half_stiff(), *uneven_nets()):
            self.assertNotEqual(still_creases(sheet), [])
            for crease in still_creases(sheet):
                self.assertTrue(is_never(sheet, crease, never_tree(sheet, crease)))

    def test_many_trees_are_judged_rightly(self):
        sheet = half_stiff()
        some = [full_tree(sheet.inner[:k], LEAF) for k in range(5)] + [full_tree(sheet.inner[k:], LEAF) for k in (1, 2)]
        some += [never_tree(sheet, crease) for crease in still_creases(sheet)]
        some += [("split", sheet.inner[0], LEAF, some[4]), ("split", sheet.inner[0], some[4], LEAF)]
        found = set()
        for crease in sheet.creases:
            for tree in some:
                wanted = is_never(sheet, crease, tree)
                self.assertIs(is_never_tree(sheet, crease, tree), wanted)
                found.add(wanted)
        self.assertEqual(found, {True, False})

    def test_leaf_alone(self):
        self.assertIs(is_never_tree(star(), (0, 1), LEAF), False)
        self.assertIs(is_never_tree(stiff_net(), stiff_net().creases[0], LEAF), False)

    def test_a_corner_split_twice(self):
        # Numbers on both lines of a corner are 0 there, so this leaf holds though the crease folds elsewhere.
        sheet = star()
        self.assertIs(is_never_tree(sheet, (0, 1), ("split", 0, LEAF, LEAF)), False)
        inner = stiff_net().inner
        crease = stiff_net().around(inner[4])[0]
        whole = full_tree(inner, LEAF)
        self.assertIs(is_never_tree(stiff_net(), crease, whole), True)
        self.assertIs(is_never_tree(stiff_net(), crease, ("split", 4, whole, whole)), True)
        short = ("split", 4, ("split", 4, whole, LEAF), ("split", 4, LEAF, whole))
        self.assertIs(is_never_tree(stiff_net(), crease, short), True)
        self.assertIs(is_never_tree(stiff_net(), crease, ("split", 4, ("split", 4, LEAF, LEAF), whole)), False)

    def test_at_most_twelve_deep(self):
        sheet = stiff_net()
        crease = sheet.around(4)[0]
        whole = full_tree(sheet.inner, LEAF)
        self.assertEqual(depth_of(whole), 10)
        tree = ("split", 4, whole, whole)
        tree = ("split", 4, tree, tree)
        self.assertEqual(depth_of(tree), 12)
        self.assertIs(is_never_tree(sheet, crease, tree), True)
        self.assertIs(is_never_tree(sheet, crease, ("split", 4, tree, tree)), False)
        self.assertIs(is_never_tree(sheet, crease, ("split", 4, tree, LEAF)), False)

    def test_depth_where_one_branch_is_deep(self):
        sheet, _, still = folding_crease()
        whole = never_tree(sheet, still)
        deep = whole
        while depth_of(deep) < 12:
            deep = ("split", sheet.inner[0], whole, deep)
        self.assertIs(is_never_tree(sheet, still, deep), True)
        self.assertIs(is_never_tree(sheet, still, ("split", sheet.inner[0], whole, deep)), False)

    def test_wrong_trees(self):
        sheet, _, still = folding_crease()
        good = never_tree(sheet, still)
        rim = sheet.rim[0]
        bad = [
            *wrong_things(), list(good), ("leaf",) * 2, ["leaf"], "leaf", ("Leaf",), ("motion", 0), (LEAF,),
            ("split", rim, good, good), ("split", True, good, good), ("split", False, good, good),
            ("split", sheet.inner[0], good), ("split", sheet.inner[0], good, good, good),
            ("split", str(sheet.inner[0]), good, good), ("split", None, good, good), ("split", -1, good, good),
            ("Split", sheet.inner[0], good, good), ("split", sheet.inner[0], list(good), good),
            ("split", sheet.inner[0], good, None), ("split", sheet.inner[0], good, ("motion", 0)),
            ("split", [sheet.inner[0]], good, good), (sheet, sheet.inner[0], good, good), {0: good},
            ("split", 10 ** 39, good, good), ("split", sheet, good, good),
        ]
        for thing in bad:
            self.assertIs(is_never_tree(sheet, still, thing), False, thing)
            self.assertIs(is_never_tree(sheet, still, ("split", sheet.inner[0], good, thing)), False, thing)
        self.assertIs(is_never_tree(sheet, still, ("split", sheet.inner[0], good, good)), True)

    def test_flag_for_a_corner(self):
        sheet = stiff_net()
        crease = sheet.around(4)[0]
        whole = full_tree(sheet.inner, LEAF)
        self.assertIs(is_never_tree(sheet, crease, ("split", 1, whole, whole)), True)
        self.assertIs(is_never_tree(sheet, crease, ("split", True, whole, whole)), False)
        self.assertIs(is_never_tree(sheet, crease, ("split", 0, whole, whole)), True)
        self.assertIs(is_never_tree(sheet, crease, ("split", False, whole, whole)), False)

    def test_wrong_creases(self):
        for wrong in [*wrong_things(), (1, 0), [0, 1], (False, 1), (1, 5)]:
            with self.assertRaises(NoCrease, msg=wrong):
                never_tree(star(), wrong)
            for thing in (LEAF, None):
                with self.assertRaises(NoCrease, msg=wrong):
                    is_never_tree(star(), wrong, thing)

    def test_by_name_and_unchanged(self):
        self.assertIsNone(never_tree(crease=(0, 1), sheet=star()))
        self.assertIs(is_never_tree(thing=LEAF, crease=(0, 1), sheet=star()), False)
        self.assertIs(unchanged(self, is_never_tree, stiff_net(), (0, 1), ["leaf"]), False)


class AllTreeTest(unittest.TestCase):
    def test_for_each_sheet(self):
        for sheet in small_sheets() + large_sheets():
            tree = all_tree(sheet)
            self.assertLessEqual(depth_of(tree), 12)
            self.assertIs(is_all_tree(sheet, motions(sheet), tree), True)
            self.assertIs(is_all_tree(sheet, tuple(motions(sheet)), tree), True)

    def test_by_their_definition(self):
        for sheet in small_sheets():
            self.assertTrue(is_all(sheet, motions(sheet), all_tree(sheet)))

    def test_many_trees_are_judged_rightly(self):
        found = set()
        for sheet in (star(), zigzag(3, 3), rhombs(2), half_stiff(), small_fold_net(), grid(3, 3)):
            spaces = motions(sheet)[:4]
            inner = sheet.inner
            ends = [("motion", k) for k in range(len(spaces))]
            some = [full_tree(inner[:k], end) for k in range(len(inner) + 1) for end in ends]
            some += [("split", inner[0], one, other) for one, other in product(some[-3:] + [all_tree(sheet)], repeat=2)]
            for tree in some:
                wanted = is_all(sheet, spaces, tree)
                self.assertIs(is_all_tree(sheet, spaces, tree), wanted)
                found.add(wanted)
        self.assertEqual(found, {True, False})

    def test_numbers_need_not_close_where_nothing_is_told(self):
        sheet = rhombs(2)
        every = [[tuple((1, 1) if j == k else (0, 1) for j in range(9)) for k in range(9)]]
        self.assertIs(is_all_tree(sheet, every, ("motion", 0)), True)
        one, other = sheet.inner
        spaces = [told_space(sheet, [(one, 1)]), told_space(sheet, [(one, 2)])]
        self.assertIs(is_all_tree(sheet, spaces, ("split", one, ("motion", 0), ("motion", 1))), True)
        self.assertIs(is_all_tree(sheet, spaces, ("split", one, ("motion", 1), ("motion", 0))), False)
        self.assertIs(is_all_tree(sheet, spaces, ("split", other, ("motion", 0), ("motion", 1))), False)
        self.assertIs(is_all_tree(sheet, [space_of(sheet, (1, 1))] * 2, ("split", one, ("motion", 0), ("motion", 1))),
                      False)

    def test_spaces_need_not_be_reduced(self):
        for sheet in (star(), grid(4, 4), rhombs(2), fold_net(), with_fins(small_fold_net(), 4)):
            tree = all_tree(sheet)
            mixed = []
            for rows in motions(sheet):
                sums = [sum_of(rows, [k + 2 * (j == k) for k in range(len(rows))], len(sheet.creases))
                        for j in range(len(rows))]
                mixed.append([list(row) for row in sums + list(rows) + sums] * 3)
            self.assertIs(is_all_tree(sheet, mixed, tree), True)
            self.assertIs(is_all_tree(sheet, [rows[:1] for rows in mixed], tree),
                          all(len(rows) == 1 for rows in motions(sheet)))

    def test_empty_and_long_spaces(self):
        sheet = stiff_net()
        self.assertIs(is_all_tree(sheet, [()], all_tree(sheet)), True)
        self.assertIs(is_all_tree(sheet, [[]] * 600, all_tree(sheet)), True)
        self.assertIs(is_all_tree(sheet, [[((0, 1),) * 24] * 700], all_tree(sheet)), True)
        self.assertIs(is_all_tree(star(), [(), ()], all_tree(star())), False)
        self.assertIs(is_all_tree(star(), [], all_tree(star())), False)
        self.assertIs(is_all_tree(single(), [()], ("motion", 0)), True)
        self.assertIs(is_all_tree(single(), [[(), []]], ("motion", 0)), True)
        self.assertIs(is_all_tree(single(), [], ("motion", 0)), False)

    def test_spaces_that_are_not_asked_may_be_anything(self):
        row = ((7, 3), (0, 1), (0, 1), (0, 1))
        self.assertIs(is_all_tree(star(), [[row], *motions(star())], ("split", 0, ("motion", 1), ("motion", 2))), True)

    def test_a_corner_split_twice(self):
        spaces = [(), *motions(star())]
        tree = ("split", 0, ("split", 0, ("motion", 1), ("motion", 0)), ("split", 0, ("motion", 0), ("motion", 2)))
        self.assertIs(is_all_tree(star(), spaces, tree), True)
        tree = ("split", 0, ("split", 0, ("motion", 0), ("motion", 1)), ("split", 0, ("motion", 0), ("motion", 2)))
        self.assertIs(is_all_tree(star(), spaces, tree), False)

    def test_at_most_twelve_deep(self):
        every = [[tuple((1, 1) if j == k else (0, 1) for j in range(4)) for k in range(4)]]
        self.assertIs(is_all_tree(star(), every, chain_tree(12, 0, ("motion", 0))), True)
        self.assertIs(is_all_tree(star(), every, chain_tree(13, 0, ("motion", 0))), False)
        self.assertIs(is_all_tree(star(), every, chain_tree(30, 0, ("motion", 0))), False)
        self.assertIs(is_all_tree(star(), every, full_tree([0] * 11, ("motion", 0))), True)
        self.assertIs(is_all_tree(star(), every, full_tree([0] * 12, ("motion", 0))), False)

    def test_wrong_trees(self):
        good = all_tree(star())
        spaces = motions(star())
        self.assertEqual(good, ("split", 0, ("motion", 0), ("motion", 1)))
        bad = [
            *wrong_things(), list(good), ("split", 0, ["motion", 0], ("motion", 1)), ("motion", 0), ("motion", 2),
            ("split", 0, ("motion", 0), ("motion", 2)), ("split", 0, ("motion", 0), ("motion", -1)),
            ("split", 0, ("motion", False), ("motion", 1)), ("split", 0, ("motion", 0), ("motion", True)),
            ("split", False, ("motion", 0), ("motion", 1)), ("split", 1, ("motion", 0), ("motion", 1)),
            ("split", 0, ("motion", 1), ("motion", 0)), ("split", 0, ("motion", 0), LEAF), ("split", 0, LEAF, LEAF),
            ("split", 0, ("motion", 0), ("motion", "1")), ("split", 0, ("motion", 0), ("motion", 1, 1)),
            ("split", 0, ("motion", 0), ("motion",)), ("split", 0, ("motion", 0)), (0, ("motion", 0), ("motion", 1)),
            ("split", 0, ("motion", 0), ("motion", 10 ** 39)), ("split", 0, ("motion", 0), ("motion", None)),
        ]
        for thing in bad:
            self.assertIs(is_all_tree(star(), spaces, thing), False, thing)

    def test_bad_spaces(self):
        zeros = ((0, 1),) * 4
        for thing in (None, LEAF, all_tree(star())):
            for wrong in (None, True, 7, "abc", {}, {0: ()}, star(), BadSpaces(1), [()] * 601, [None] * 601):
                self.check_bad(star(), wrong, thing, -1)
            for wrong in wrong_things():
                if wrong in ((), []) or wrong == [[]]:
                    continue
                self.check_bad(star(), [[zeros], wrong, None], thing, 1)
            for wrong in (
                zeros, [zeros[:3]], [zeros + zeros[:1]], [zeros, None], [[(0, 1)] * 3 + [(0, 2)]], [zeros, [(1, 1)]],
                [[(0, 1)] * 3 + [(True, 1)]], [[(0, 1)] * 3 + [[0, 1]]], [zeros, {}], [dict(enumerate(zeros))], "ab",
                {0: zeros}, [()],
            ):
                for at in (0, 1, 3):
                    self.check_bad(star(), [[zeros]] * at + [wrong, wrong], thing, at)

    def check_bad(self, sheet, spaces, thing, at):
        with self.assertRaises(BadSpaces) as caught:
            is_all_tree(sheet, spaces, thing)
        self.assertEqual(caught.exception.at, at)

    def test_six_hundred(self):
        spaces = motions(rhombs(9)) + [()] * 88
        self.assertIs(is_all_tree(rhombs(9), spaces, all_tree(rhombs(9))), True)
        self.check_bad(rhombs(9), [*spaces, ()], all_tree(rhombs(9)), -1)

    def test_third_fact(self):
        sheet = fold_net()
        self.assertIs(is_all_tree(sheet, [space_of(sheet, FOLD_CHOICE)], all_tree(sheet)), True)
        self.assertIs(is_all_tree(sheet, [()], all_tree(sheet)), False)
        self.assertIs(is_all_tree(ladder(3), [(((1, 1), (0, 1)),)], ("motion", 0)), False)

    def test_by_name_and_unchanged(self):
        spaces = [[list(row) for row in rows] for rows in motions(star())]
        self.assertIs(is_all_tree(thing=all_tree(sheet=star()), spaces=spaces, sheet=star()), True)
        self.assertIs(unchanged(self, is_all_tree, star(), spaces, all_tree(star())), True)


if __name__ == "__main__":
    unittest.main()
