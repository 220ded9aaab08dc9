"""[0.2] and the interface: names, parameters, files, and equal results for equal arguments."""
import importlib
import inspect
import unittest

from fourcreases import errors
from fourcreases.bands import Patch
from fourcreases.motions import motions
from fourcreases.sheets import Sheet
from fourcreases.texts import sheet_text
from fourcreases.trees import all_tree
from tests.makers import grid, points, small_fold_net, star
from tests.patches import counted

STAND = ((1, 1), (2, 1), (-1, 1), (2, 1))
FLAT = ((0, 1),) * 4
INTERFACE = {
    "fracs": {
        "frac_of": "top bottom", "frac_add": "one other", "frac_sub": "one other", "frac_mul": "one other",
        "frac_div": "one other", "frac_sign": "one other", "frac_root": "one",
    },
    "plane": {"length_of": "one other", "turn_of": "one other third", "is_plate": "thing", "lie_over": "one other"},
    "sheets": {"Sheet": "corners plates"},
    "corners": {
        "corner_fractions": "sheet corner", "corner_tangents": "sheet corner", "line_of": "sheet corner four",
    },
    "stands": {"is_stand": "sheet thing", "open_corner": "sheet numbers"},
    "motions": {
        "space_of": "sheet choice", "bar_of": "sheet choice", "motions": "sheet", "hands": "sheet",
        "motions_with": "sheet numbers", "folded": "sheet crease", "can_fold": "sheet crease",
        "still_creases": "sheet", "one_motion": "sheet stands",
    },
    "trees": {
        "never_tree": "sheet crease", "is_never_tree": "sheet crease thing", "all_tree": "sheet",
        "is_all_tree": "sheet spaces thing",
    },
    "space": {
        "is_placing": "sheet thing", "placed": "sheet numbers", "shown_numbers": "sheet placing",
        "gap2": "sheet numbers one other", "spot_at": "sheet numbers spot",
    },
    "crossing": {
        "crossing_plates": "sheet numbers", "crossing_point": "sheet numbers one other",
        "is_crossing": "sheet numbers one other thing",
    },
    "swings": {
        "swing_gap": "sheet numbers one other", "stays_apart": "sheet numbers one other",
        "meeting_count": "sheet numbers one other low high", "poly_at": "poly s", "quotient_at": "quotient s",
    },
    "pressing": {"flat_placing": "sheet lot", "pressed": "sheet numbers"},
    "books": {
        "book_stand": "sheet book", "book_bar": "sheet book", "is_round": "sheet book thing", "books_many": "sheet",
        "book_number": "sheet number",
    },
    "seen": {
        "fitting": "sheet told", "sure_number": "sheet told crease", "two_fitting": "sheet told crease",
        "unfit_tree": "sheet told", "is_unfit_tree": "sheet told thing",
    },
    "sights": {"settles": "sheet lot", "blind_pair": "sheet lot", "least_sights": "sheet"},
    "drives": {"drive_of": "sheet crease other", "undriven": "sheet crease other"},
    "locking": {
        "locks": "sheet lot crease", "slip": "sheet lot crease", "least_locks": "sheet crease",
        "cheapest_lock": "sheet prices crease",
    },
    "ways": {
        "way": "sheet one other held", "is_way": "sheet one other held thing", "parting": "sheet one other held",
        "is_parting": "sheet one other held thing",
    },
    "bands": {
        "Patch": "sheet left right", "band_sheet": "patch copies", "band_many": "patch copies modulus",
        "band_end": "patch", "bands_alike": "one other",
    },
    "tables": {
        "fits_together": "table", "fulfils": "table wish", "grown": "first_row first_column wish",
        "grown_bar": "first_row first_column wish",
    },
    "lengths": {
        "are_lengths": "table thing", "lengths_for": "table", "length_bar": "table", "is_length_bar": "table thing",
    },
    "nets": {"sheet_of": "table across up depth"},
    "slits": {"slit_motions": "sheet slit", "slit_folds": "sheet slit crease", "least_slit": "sheet crease"},
    "joining": {"joined": "one other", "cut_numbers": "whole part numbers"},
    "texts": {
        "frac_text": "one", "read_frac": "text", "sheet_text": "sheet", "read_sheet": "text", "numbers_text": "numbers",
        "read_numbers": "text", "tree_text": "tree", "read_tree": "text",
    },
    "bench": {"Bench": ""},
    "folders": {"first_wrong": "sheet folder tries", "first_leap": "sheet folder tries"},
}
METHODS = {
    "sheets": {"Sheet": {"around": "corner", "beside": "crease", "__eq__": "other"}},
    "bench": {
        "Bench": {
            "put": "points", "take": "number", "laid": "", "undo": "", "made": "", "folds": "one other",
            "moves": "points", "trying": "deed",
        },
    },
}
PAIR = ((1, 2), (2, 3))
# The arguments that are called so, where they are not spots and the sheet not one with twelve creases.
OTHERWISE = {
    "crossing": {"one": 2, "other": 0},
    "drives": {"sheet": star(), "crease": (0, 1), "other": (0, 3)},
    "ways": {"one": STAND, "other": FLAT, "sheet": star()},
    "locking": {"sheet": star(), "lot": [(0, 1)], "crease": (0, 3)},
    "sights": {"sheet": star(), "lot": [(0, 1)]},
    "bands": {"one": counted("wide"), "other": counted("two"), "copies": 2, "sheet": grid(1, 2)},
    "lengths": {"thing": ([[(1, 1)]] * 2, [[(1, 1)] * 2])},
    "nets": {"table": [[((1, 1), (1, 1))] * 2] * 2},
    "slits": {"sheet": grid(2, 2), "slit": [1, 4], "crease": (4, 7)},
    "joining": {
        "one": grid(1, 1), "other": Sheet(points((0, 0), (1, 0), (1, -1), (0, -1)), [(3, 2, 1, 0)]),
        "whole": star(), "part": star(), "numbers": FLAT,
    },
    "texts": {"one": (1, 2)},
}
TEXTS = {"read_frac": "1/2", "read_sheet": sheet_text(star()), "read_numbers": "1/2 3", "read_tree": "(0 . 1)"}


def calls():
    """A call of each function that takes a sheet, with its arguments."""
    sheet = small_fold_net()
    rows = motions(sheet)
    numbers = rows[0][0]
    crease = sheet.creases[3]
    corner = sheet.inner[1]
    spot = (1, sheet.corners[sheet.plates[1][0]])
    module = importlib.import_module
    placing = module("fourcreases.space").placed(sheet, numbers)
    told = {
        "sheet": sheet, "corner": corner, "four": [(0, 1)] * 4, "numbers": numbers, "choice": [1, 2, 1, 2],
        "crease": crease, "stands": [numbers], "spaces": rows, "placing": placing, "one": spot, "other": spot,
        "spot": spot, "thing": all_tree(sheet), "low": (-1, 1), "high": (3, 1), "poly": ((1, 2), (3, 1)), "s": (2, 3),
        "quotient": (((1, 2),), ((3, 1), (1, 1))), "lot": list(sheet.creases), "book": [0] * len(sheet.creases),
        "patch": counted("wide"), "left": [0, 2, 4], "right": (1, 3, 5), "copies": 3, "modulus": 7,
        "table": [[PAIR] * 2] * 2, "wish": [[1, 1]] * 2, "first_row": [PAIR] * 2, "first_column": [PAIR] * 2,
        "across": [[(1, 1)]] * 2, "up": [[(1, 1)] * 2], "depth": (1, 2), "tree": all_tree(sheet),
        "folder": lambda one: [(0, 1)] * len(sheet.creases), "tries": [(1, 2), (3, 1)],
        "number": 1, "told": {crease: (1, 3)}, "prices": {glued: 2 for glued in star().creases}, "held": {},
    }
    for name, functions in INTERFACE.items():
        if name not in ("fracs", "plane", "sheets", "bench"):
            for function, parameters in functions.items():
                call = getattr(module("fourcreases." + name), function)
                some = {**told, **OTHERWISE.get(name, {}), "text": TEXTS.get(function)}
                yield call, {parameter: some[parameter] for parameter in parameters.split()}


class InterfaceTest(unittest.TestCase):
    def test_names_parameters_and_files(self):
        for name, functions in INTERFACE.items():
            module = importlib.import_module("fourcreases." + name)
            for function, parameters in functions.items():
                found = getattr(module, function)
                self.assertEqual(list(inspect.signature(found).parameters), parameters.split(), function)
                self.assertEqual(found.__module__, "fourcreases." + name)

    def test_methods(self):
        for name, classes in METHODS.items():
            for told, methods in classes.items():
                found = getattr(importlib.import_module("fourcreases." + name), told)
                for method, parameters in methods.items():
                    self.assertEqual(
                        list(inspect.signature(vars(found)[method]).parameters), ["self", *parameters.split()], method
                    )
        self.assertEqual(set(vars(counted("row"))) & {"sheet", "left", "right"}, {"sheet", "left", "right"})
        self.assertEqual(
            set(vars(star())) & {"corners", "plates", "creases", "rim", "inner", "inside"},
            {"corners", "plates", "creases", "rim", "inner", "inside"},
        )

    def test_errors_stand_in_their_file(self):
        for name, found in vars(errors).items():
            if isinstance(found, type):
                self.assertEqual(found.__module__, "fourcreases.errors", name)


def told(result):
    """A result that can be compared; patches are not."""
    return (result.sheet, result.left, result.right) if isinstance(result, Patch) else result


class EqualResultsTest(unittest.TestCase):
    def test_by_name_twice(self):
        for (call, first), (_, second), (_, fresh) in zip(calls(), calls(), calls()):
            before = repr({name: thing for name, thing in first.items() if name != "sheet"})
            one, other = told(call(**first)), told(call(**second))
            self.assertEqual(one, other, call)
            self.assertEqual(told(call(**first)), one)
            self.assertEqual(repr({name: thing for name, thing in first.items() if name != "sheet"}), before)
            self.assertEqual(first.get("sheet"), fresh.get("sheet"))

    def test_by_place(self):
        for call, arguments in calls():
            self.assertEqual(told(call(*arguments.values())), told(call(**arguments)))


if __name__ == "__main__":
    unittest.main()
