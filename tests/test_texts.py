"""[15.1] to [15.4] Texts of fractions, sheets, numbers and trees."""
import unittest
from itertools import product
from random import Random

from fourcreases.errors import BadCorners, BadPlates, BadSheet, BadText, NoFraction, NoNumbers, NoTree
from fourcreases.motions import motions
from fourcreases.texts import (
    frac_text, numbers_text, read_frac, read_numbers, read_sheet, read_tree, sheet_text, tree_text,
)
from fourcreases.trees import all_tree, never_tree
from tests.makers import fold_net, grid, single, small_fold_net, star, stiff_net, wide_star
from tests.test_motions import large_sheets, small_sheets
from tests.things import unchanged, wrong_things

LEAF = ("leaf",)
STAR_TEXT = """corner 0 0
corner 1 0
corner 0 1
corner -3 4
corner -4 -3
corner 1 1
corner -3 5
corner -7 1
corner -3 -3
plate 0 1 5 2
plate 0 2 6 3
plate 0 3 7 4
plate 0 4 8 1
"""
# The digits of other alphabets, full ones and raised ones, are no digits here.
STRANGE = ["\u0663", "\u0967", "\uff11", "\u00b2", "\u2460"]


class BadTextTest(unittest.TestCase):
    def check(self, at, call, thing):
        with self.assertRaises(BadText, msg=repr(thing)) as caught:
            call(thing)
        self.assertEqual(caught.exception.at, at, repr(thing))


class FractionTest(BadTextTest):
    def test_told_ones(self):
        pairs = [
            ((0, 1), "0"), ((1, 1), "1"), ((-1, 1), "-1"), ((1, 2), "1/2"), ((-7, 3), "-7/3"), ((10, 1), "10"),
            ((100, 33), "100/33"), ((-1, 10), "-1/10"), ((10 ** 39, 10 ** 39 + 1), "1" + "0" * 39 + "/1" + "0" * 38 + "1"),
        ]
        for one, text in pairs:
            self.assertEqual(frac_text(one), text)
            self.assertEqual(read_frac(text), one)
            self.assertEqual(read_frac(text=frac_text(one=one)), one)

    def test_long_digits(self):
        random = Random(1)
        for many in (59, 60, 61, 120, 121, 3999, 4000, 4301, 9000):
            top, bottom = "7" + "".join(random.choice("0123456789") for _ in range(many - 1)), "1" + "0" * (many - 1)
            top = top[:-1] + "3"
            self.assertEqual(frac_text(read_frac("-" + top + "/" + bottom)), "-" + top + "/" + bottom)
            zeros = "1" + "0" * (many - 2) + "1"
            self.assertEqual(frac_text(read_frac(zeros)), zeros)
            number = 1
            for sign in zeros[1:]:
                number = number * 10 + int(sign)
            self.assertEqual(read_frac(zeros), (number, 1))

    def test_texts_that_are_none(self):
        for text in [
            "", " ", "-", "/", "-/2", "1/", "/2", "-0", "+1", "00", "01", "-01", "1/1", "2/1", "0/1", "0/5", "-0/1", "2/4",
            "1/0", "0/0", "1/-2", "1/02", "1/2/3", "1//2", "1 /2", "1/ 2", " 1", "1 ", "1\n", "\t1", "1.5", "1e3", "1_000",
            "0x1", "one", "--1", "1-", "6/3", "4000/2", "(1, 2)", "1,2", "1/2 ", "-1/-2", *STRANGE, "1/" + STRANGE[0],
            *["1" + sign for sign in STRANGE], "1\x00", "True",
        ]:
            self.check(1, read_frac, text)
        for thing in wrong_things():
            if thing != "1/2":
                self.check(1, read_frac, thing)
        for thing in wrong_things():
            if thing not in ((1, 2), (-5, 1)):
                self.assertRaises(NoFraction, frac_text, thing)

    def test_all_short_texts(self):
        """A text is read just if frac_text writes it."""
        written = {frac_text((top, bottom)): (top, bottom) for top, bottom in product(range(-40, 41), range(1, 100))
                   if read_or_none(f"{top}/{bottom}" if bottom > 1 else f"{top}") is not None}
        for signs in product("0123-/ ", repeat=3):
            text = "".join(signs).rstrip(" ")
            found = read_or_none(text)
            if found is not None:
                self.assertEqual(frac_text(found), text)
        for text, one in written.items():
            self.assertEqual(read_frac(text), one)


def read_or_none(text):
    try:
        return read_frac(text)
    except BadText:
        return None


class SheetTextTest(BadTextTest):
    def test_document(self):
        self.assertEqual(sheet_text(star()), STAR_TEXT)
        self.assertEqual(read_sheet(STAR_TEXT), star())
        self.assertEqual(read_sheet(text=sheet_text(sheet=star())), star())

    def test_there_and_back(self):
        for sheet in [*small_sheets(), *large_sheets(), stiff_net(), wide_star(39)]:
            text = sheet_text(sheet)
            self.assertEqual(read_sheet(text), sheet)
            self.assertEqual(len(text.split("\n")), len(sheet.corners) + len(sheet.plates) + 1)
        self.assertIn("corner 1/3 ", sheet_text(read_sheet("corner 0 0\ncorner 1/3 0\ncorner 0 1/4\nplate 0 1 2\n")))

    def test_no_text_of_lines(self):
        for thing in [*wrong_things(), STAR_TEXT[:-1], STAR_TEXT + " ", STAR_TEXT + "corner 1 1", "corner", " ", "\t", "\n "]:
            if thing != "":
                self.check(0, read_sheet, thing)
        for thing in ([STAR_TEXT], {STAR_TEXT: 1}, (STAR_TEXT,)):
            self.check(0, read_sheet, thing)

    def test_bad_lines(self):
        lines = STAR_TEXT.split("\n")[:-1]
        bad = [
            "", " ", "corner", "plate", "corner ", "plate ", "corner 1", "corner 1 2 3", "corner 1 2 ", " corner 1 2",
            "corner  1 2", "corner 1  2", "corner\t1 2", "corner 1 2\t", "corner 2/4 1", "corner 1 -0", "corner 01 1",
            "corner 1 1/1", "corner 1 x", "Corner 1 2", "corners 1 2", "plate 0 1 -2", "plate 0 1 02", "plate 0  1 2",
            "plate 0 1 2 ", "plate 0 1/2 2", "plate 0 +1 2", "plate 0 1 2\r", "PLATE 0 1 2", "plates 0 1 2", "plate0 1 2",
            "plate a b c", "0 1 2", "# nothing", "corner 1 " + STRANGE[0], "plate 0 1 " + STRANGE[1], "plate -0 1 2",
            "plate 0 1 ", "plate  ", "corner  ", "corner 1 2/", "plate 0,1,2",
        ]
        for row in bad:
            for at in (0, 4, len(lines) - 1, len(lines)):
                self.check(at + 1, read_sheet, "\n".join([*lines[:at], row, *lines[at:]]) + "\n")
            self.check(1, read_sheet, row + "\n")
            self.check(2, read_sheet, "plate 0\n" + row + "\ncorner 1 x\n")
        self.check(1, read_sheet, "\n")
        self.check(1, read_sheet, "\n" + STAR_TEXT)
        self.check(14, read_sheet, STAR_TEXT + "\n")

    def test_corner_behind_a_plate(self):
        self.check(14, read_sheet, STAR_TEXT + "corner 9 9\n")
        self.check(2, read_sheet, "plate 0 1 2\ncorner 0 0\n")
        self.check(2, read_sheet, "plate 0\ncorner 0 0\nplate x\n")
        self.check(3, read_sheet, "corner 1 1\nplate 7\ncorner 2 2\n")

    def test_what_sheet_raises(self):
        with self.assertRaises(BadCorners) as caught:
            read_sheet("")
        self.assertEqual(caught.exception.at, -1)
        with self.assertRaises(BadCorners) as caught:
            read_sheet("corner 1 1\ncorner 2 2\ncorner 1 1\n")
        self.assertEqual(caught.exception.at, 2)
        with self.assertRaises(BadPlates) as caught:
            read_sheet("corner 1 1\ncorner 2 2\ncorner 3 1\n")
        self.assertEqual(caught.exception.at, -1)
        for row in ("plate 0", "plate 1 1 1", "plate 0 1 " + "9" * 3000, "plate" + " 5" * 300, "plate 0 1 9"):
            with self.assertRaises(BadPlates) as caught:
                read_sheet(STAR_TEXT + row + "\n")
            self.assertEqual(caught.exception.at, 4)
        with self.assertRaises(BadSheet) as caught:
            read_sheet(STAR_TEXT + "plate 0 1 5 2\n")
        self.assertEqual((caught.exception.word, caught.exception.at), ("over", 4))
        with self.assertRaises(BadCorners):
            read_sheet("plate 0 1 2\n")


class NumbersTest(BadTextTest):
    def test_told_ones(self):
        self.assertEqual(numbers_text([(1, 2), (-3, 1), (0, 1)]), "1/2 -3 0")
        self.assertEqual(read_numbers("1/2 -3 0"), ((1, 2), (-3, 1), (0, 1)))
        self.assertEqual((numbers_text(()), numbers_text([]), read_numbers("")), ("", "", ()))
        self.assertEqual(read_numbers(text=numbers_text(numbers=((5, 7),))), ((5, 7),))

    def test_there_and_back(self):
        for sheet in (star(), small_fold_net(), grid(3, 3), fold_net()):
            for rows in motions(sheet):
                for row in rows:
                    self.assertEqual(read_numbers(unchanged(self, numbers_text, list(row))), row)
        many = tuple((k, 701) if k % 701 else (0, 1) for k in range(-350, 350))
        self.assertEqual(read_numbers(numbers_text(many)), many)

    def test_bad_words(self):
        words = ["1/2", "-3", "0", "7"]
        for bad in ["", "2/4", "x", "-0", "1/1", "01", "\t", "1\n", "1\t2", STRANGE[0], "1,", "1/", "."]:
            for at in range(5):
                self.check(at + 1, read_numbers, " ".join([*words[:at], bad, *words[at:]]))
                self.check(at + 1, read_numbers, " ".join([*words[:at], bad, *words[at:], "y"]))
        for text, at in ((" ", 1), (" 1", 1), ("1 ", 2), ("1  2", 2), ("  ", 1), ("1 2 ", 3), ("1\n2", 1), ("1 2\n", 2)):
            self.check(at, read_numbers, text)

    def test_no_strings_and_no_numbers(self):
        for thing in wrong_things():
            if not isinstance(thing, str):
                self.check(0, read_numbers, thing)
            if thing not in ((), [], [(1, 2), (3, 4)], ((1, 2),), ((1, 1), (1, 1), (1, 1))):
                self.assertRaises(NoNumbers, numbers_text, thing)
        for thing in ([(1, 1), (2, 4)], [(1, 1), True], [(1, 1), None], {(1, 1): (1, 1)}, [[1, 1]], [(True, 1)]):
            self.assertRaises(NoNumbers, numbers_text, thing)


def deep_tree(deep, side=3, end=LEAF):
    """A tree nested so deep on one side."""
    if deep == 1:
        return end
    rest = deep_tree(deep - 1, side, end)
    return ("split", deep, LEAF, rest) if side == 3 else ("split", deep, rest, ("motion", deep))


def wide_tree(deep):
    return ("split", 7, wide_tree(deep - 1), wide_tree(deep - 1)) if deep > 1 else ("motion", 3)


class TreeTest(BadTextTest):
    def test_told_ones(self):
        pairs = [
            (LEAF, "."), (("motion", 0), "0"), (("motion", 17), "17"), (("split", 4, LEAF, LEAF), "(4 . .)"),
            (("split", 0, ("motion", 2), ("split", 12, LEAF, ("motion", 0))), "(0 2 (12 . 0))"),
            (("motion", 10 ** 40 - 1), "9" * 40), (("split", 10 ** 39, LEAF, LEAF), "(1" + "0" * 39 + " . .)"),
        ]
        for tree, text in pairs:
            self.assertEqual(tree_text(tree), text)
            self.assertEqual(read_tree(text), tree)
            self.assertEqual(read_tree(text=tree_text(tree=tree)), tree)

    def test_trees_of_sheets(self):
        for sheet in (star(), grid(3, 3), small_fold_net(), stiff_net()):
            trees = [all_tree(sheet)] + [never_tree(sheet, crease) for crease in sheet.creases[::3]]
            for tree in trees:
                if tree is not None:
                    self.assertEqual(read_tree(tree_text(tree)), tree)

    def test_12_and_13_deep(self):
        for side in (2, 3):
            for end in (LEAF, ("motion", 5)):
                tree = deep_tree(12, side, end)
                text = tree_text(tree)
                self.assertEqual(read_tree(text), tree)
                self.assertRaises(NoTree, tree_text, deep_tree(13, side, end))
                self.assertRaises(NoTree, tree_text, ("split", 1, LEAF, tree))
                # The one more that is opened at the twelfth place is what no text has there.
                at = text.rindex("(") + len("(2 ") + (2 if side == 3 else 0)
                self.check(at + 1, read_tree, text[:at] + "(1 . .)" + text[at + 1:])
                self.check(at + 1, read_tree, text[:at] + "(")
        wide = wide_tree(12)
        self.assertEqual(read_tree(tree_text(wide)), wide)

    def test_no_trees(self):
        things = [
            *[thing for thing in wrong_things() if thing != LEAF], ("leaf", 1), ("motion",), ("motion", -1), ("motion", 1, 2),
            ("motion", "1"), ("motion", (1,)), ("split", 1, LEAF), ("split", 1, LEAF, LEAF, LEAF), ("split", -1, LEAF, LEAF),
            ("split", True, LEAF, LEAF), ("split", 1, LEAF, ("motion", False)), ("split", 1, LEAF, None), ("split", 1, ".", LEAF),
            ("split", "1", LEAF, LEAF), ("split", None, LEAF, LEAF), ["leaf"], ["motion", 1], ["split", 1, LEAF, LEAF],
            ("split", 1, ["leaf"], LEAF), ("Leaf",), ("split",), ("split", 1), (1, "motion"), ("leaf", LEAF, 1, 2),
        ]
        for thing in things:
            self.assertRaises(NoTree, tree_text, thing)

    def test_first_wrong_sign(self):
        for text, at in [
            ("()", 2), ("(", 2), ("", 1), ("(1", 3), ("(1 ", 4), ("(1 .", 5), ("(1 . ", 6), ("(1 . .", 7), ("(1 . .)", None),
            ("(1 . .))", 8), ("(1 . .) ", 8), ("..", 2), (". ", 2), (".1", 2), ("1.", 2), ("1 ", 2), ("1)", 2), (" 1", 1),
            ("00", 2), ("01", 2), ("(01 . .)", 3), ("(1 01 .)", 5), ("(0 0 0)", None), ("(1  . .)", 4), ("(1 .  .)", 6),
            ("(1 . . )", 7), ("(1 . . .)", 7), ("( 1 . .)", 2), ("(1. .)", 3), ("(1(2 . .) .)", 3), ("(1 . .2)", 7),
            ("(1 12 .)", None), ("(-1 . .)", 2), ("-1", 1), ("+1", 1), (")", 1), ("a", 1), ("(a . .)", 2), ("(1\t. .)", 3),
            ("(1 .\n.)", 5), (".\n", 2), ("1\n", 2), ("(1 (2 . .) (3 . .)", 19), ("(1 (2 . .)", 11), ("(. . .)", 2), ("1/2", 2),
            *[(sign, 1) for sign in STRANGE], *[("1" + sign, 2) for sign in STRANGE], *[("(" + sign + " . .)", 2) for sign in STRANGE],
        ]:
            if at is None:
                self.assertEqual(tree_text(read_tree(text)), text)
            else:
                self.check(at, read_tree, text)

    def test_digits_beyond_40(self):
        long = "1" * 40
        self.assertEqual(read_tree(long), ("motion", int(long)))
        self.check(41, read_tree, long + "1")
        self.check(41, read_tree, long + "0" + long)
        self.check(42, read_tree, "(" + long + "2 . .)")
        self.check(42, read_tree, "(" + long)
        self.check(44, read_tree, "(1 " + long + "5 .)")
        self.assertEqual(read_tree("(1 " + long + " .)"), ("split", 1, ("motion", int(long)), LEAF))

    def test_by_all_beginnings(self):
        """The number is that of the first sign with which no text of a tree begins, by trying all short texts."""
        signs = "(). 01"
        texts = set()
        for ends in product((".", "0", "1", "10", "11", "100", "101", "110", "111"), repeat=2):
            texts.add(ends[0])
            for corner in ("0", "1", "10", "11", "100"):
                texts.add(f"({corner} {ends[0]} {ends[1]})")
                texts.add(f"({corner} (0 . .) {ends[1]})")
                texts.add(f"({corner} {ends[0]} (1 . .))")
        beginnings = {text[:k] for text in texts for k in range(len(text) + 1)}
        random = Random(3)
        for _ in range(3000):
            start = random.choice(sorted(beginnings)[:200])
            text = start[:random.randrange(len(start) + 1)] + random.choice(signs)
            if len(text) <= 4:
                wanted = next((k for k in range(1, len(text) + 1) if text[:k] not in beginnings), len(text) + 1)
                if text in texts:
                    self.assertEqual(tree_text(read_tree(text)), text)
                elif not text[:wanted].endswith("(") or wanted > len(text):
                    self.check(wanted, read_tree, text)

    def test_no_strings(self):
        for thing in wrong_things():
            if not isinstance(thing, str):
                self.check(0, read_tree, thing)
        self.check(1, read_tree, "leaf")
        self.assertEqual(tree_text(never_tree(stiff_net(), stiff_net().creases[0]))[0], "(")
        self.assertEqual(sheet_text(single())[:7], "corner ")


if __name__ == "__main__":
    unittest.main()
