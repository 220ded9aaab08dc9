"""[0.2] The errors of the interface."""
import unittest

from fourcreases import errors
from fourcreases.errors import FoldError

FIELDS = {
    "NoFraction": (), "NoPoint": (), "NoPlate": (), "BadCorners": ("at",), "BadPlates": ("at",),
    "BadSheet": ("word", "at"), "TooMany": ("most",), "NoCorner": (), "NoCrease": (), "NoNumbers": (),
    "NoStand": (), "BadChoice": (), "BadSpaces": ("at",), "NoPlacing": (), "Shut": ("crease",), "NoSpot": (),
    "BadNumber": ("word",), "NoPolynomial": (), "BadLot": (), "BadBook": (), "BadTold": (), "NoFit": (),
    "BadPrices": (), "BadHeld": (), "NotHeld": ("at",), "BadSeam": ("word",), "BadTable": (), "BadWish": (),
    "BadLengths": (), "NoSlit": (), "NoPart": (), "BadText": ("at",), "NoTree": (), "LiesOver": ("number",),
    "NoUndo": (), "BadTries": (),
}
VALUES = {"at": 3, "word": "over", "most": 9, "crease": (1, 2), "number": 5}


class ErrorsTest(unittest.TestCase):
    def test_there_are_thirty_six(self):
        self.assertEqual(len(FIELDS), 36)
        for name in FIELDS:
            self.assertTrue(hasattr(errors, name), name)

    def test_bases(self):
        self.assertEqual(FoldError.__bases__, (ValueError,))
        for name in FIELDS:
            self.assertEqual(getattr(errors, name).__bases__, (FoldError,), name)

    def test_fields_by_place(self):
        for name, fields in FIELDS.items():
            error = getattr(errors, name)(*[VALUES[field] for field in fields])
            for field in fields:
                self.assertEqual(getattr(error, field), VALUES[field], name)

    def test_fields_by_name(self):
        for name, fields in FIELDS.items():
            error = getattr(errors, name)(**{field: VALUES[field] for field in fields})
            self.assertEqual(vars(error), {field: VALUES[field] for field in fields}, name)

    def test_made_with_just_the_fields(self):
        for name, fields in FIELDS.items():
            made = getattr(errors, name)
            with self.assertRaises(TypeError, msg=name):
                made(*[VALUES[field] for field in fields], 1)
            if fields:
                with self.assertRaises(TypeError, msg=name):
                    made(*[VALUES[field] for field in fields][1:])

    def test_each_is_none_of_the_others(self):
        made = {
            name: getattr(errors, name)(*[VALUES[field] for field in fields]) for name, fields in FIELDS.items()
        }
        for name, error in made.items():
            self.assertIsInstance(error, FoldError)
            self.assertIsInstance(error, ValueError)
            for other in FIELDS:
                self.assertEqual(isinstance(error, getattr(errors, other)), name == other)

    def test_caught_as_a_fold_error(self):
        with self.assertRaises(FoldError) as caught:
            raise errors.BadSheet("four", 7)
        self.assertEqual((caught.exception.word, caught.exception.at), ("four", 7))


if __name__ == "__main__":
    unittest.main()
