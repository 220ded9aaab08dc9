"""[1.1] Fractions, and the conventions [0.2] for them."""
import unittest
from fractions import Fraction
from itertools import product
from math import gcd

from fourcreases.errors import NoFraction
from fourcreases.fracs import frac_add, frac_div, frac_mul, frac_of, frac_root, frac_sign, frac_sub
from tests.makers import pair
from tests.things import DIGITS_40, wrong_things

SOME = [Fraction(top, bottom) for top in range(-7, 8) for bottom in (1, 2, 3, 4, 6, 9)]
BIG = 10 ** 40 - 1


class FracOfTest(unittest.TestCase):
    def test_signs_and_lowest_terms(self):
        self.assertEqual(frac_of(6, 4), (3, 2))
        self.assertEqual(frac_of(-6, 4), (-3, 2))
        self.assertEqual(frac_of(6, -4), (-3, 2))
        self.assertEqual(frac_of(-6, -4), (3, 2))
        self.assertEqual(frac_of(5, 1), (5, 1))
        self.assertEqual(frac_of(5, -5), (-1, 1))

    def test_nought(self):
        for bottom in (1, -1, 7, -BIG):
            self.assertEqual(frac_of(0, bottom), (0, 1))

    def test_all_small_ones(self):
        for top, bottom in product(range(-12, 13), repeat=2):
            if bottom:
                found = frac_of(top, bottom)
                self.assertEqual(found, pair(Fraction(top, bottom)))
                self.assertIsInstance(found, tuple)
                self.assertEqual([type(part) for part in found], [int, int])

    def test_forty_digits(self):
        self.assertEqual(frac_of(2 * BIG, -4 * BIG), (-1, 2))
        self.assertEqual(gcd(DIGITS_40, BIG), gcd(*frac_of(DIGITS_40, BIG)) * gcd(DIGITS_40, BIG))

    def test_wrong(self):
        for wrong in (None, True, False, "1", (1, 1), [1], {}, NoFraction()):
            for top, bottom in ((wrong, 2), (2, wrong), (wrong, wrong)):
                with self.assertRaises(NoFraction):
                    frac_of(top, bottom)
        with self.assertRaises(NoFraction):
            frac_of(1, 0)
        with self.assertRaises(NoFraction):
            frac_of(0, 0)


class ReckoningTest(unittest.TestCase):
    def test_like_pythons(self):
        for one, other in product(SOME, repeat=2):
            a, b = pair(one), pair(other)
            self.assertEqual(frac_add(a, b), pair(one + other))
            self.assertEqual(frac_sub(a, b), pair(one - other))
            self.assertEqual(frac_mul(a, b), pair(one * other))
            self.assertEqual(frac_sign(a, b), (one > other) - (one < other))
            if other:
                self.assertEqual(frac_div(a, b), pair(one / other))

    def test_forty_digits(self):
        one, other = Fraction(BIG, DIGITS_40), Fraction(-DIGITS_40 - 2, BIG - 3)
        self.assertEqual(frac_add(pair(one), pair(other)), pair(one + other))
        self.assertEqual(frac_sub(pair(one), pair(other)), pair(one - other))
        self.assertEqual(frac_mul(pair(one), pair(other)), pair(one * other))
        self.assertEqual(frac_div(pair(one), pair(other)), pair(one / other))
        self.assertEqual(frac_sign((BIG, BIG - 1), (BIG - 1, BIG - 2)), -1)
        self.assertEqual(frac_sign((BIG - 1, BIG - 2), (BIG, BIG - 1)), 1)
        self.assertEqual(frac_sign((BIG, BIG - 1), (BIG, BIG - 1)), 0)

    def test_sign_is_no_flag(self):
        self.assertIs(type(frac_sign((1, 1), (1, 2))), int)

    def test_division_by_nought(self):
        for one in ((0, 1), (1, 1), (-3, 7)):
            with self.assertRaises(NoFraction):
                frac_div(one, (0, 1))
        self.assertEqual(frac_div((0, 1), (-3, 7)), (0, 1))

    def test_wrong(self):
        for call in (frac_add, frac_sub, frac_mul, frac_div, frac_sign):
            for wrong in wrong_things():
                for one, other in ((wrong, (1, 2)), ((1, 2), wrong), (wrong, wrong)):
                    with self.assertRaises(NoFraction, msg=(call, wrong)):
                        call(one, other)

    def test_by_name(self):
        self.assertEqual(frac_of(bottom=4, top=2), (1, 2))
        self.assertEqual(frac_add(other=(1, 2), one=(1, 3)), (5, 6))
        self.assertEqual(frac_sub(other=(1, 2), one=(1, 3)), (-1, 6))
        self.assertEqual(frac_mul(other=(1, 2), one=(1, 3)), (1, 6))
        self.assertEqual(frac_div(other=(1, 2), one=(1, 3)), (2, 3))
        self.assertEqual(frac_sign(other=(1, 2), one=(1, 3)), -1)
        self.assertEqual(frac_root(one=(1, 9)), (1, 3))


class RootTest(unittest.TestCase):
    def test_squares(self):
        for top in range(13):
            for bottom in range(1, 13):
                one = Fraction(top, bottom)
                self.assertEqual(frac_root(pair(one * one)), pair(one))

    def test_no_squares(self):
        for one in ((2, 1), (1, 2), (4, 3), (3, 4), (8, 9), (9, 8), (-1, 1), (-4, 9), (-2, 1)):
            self.assertIsNone(frac_root(one))

    def test_forty_digits(self):
        root = 10 ** 20 - 1
        self.assertEqual(frac_root((root * root, 1)), (root, 1))
        self.assertEqual(frac_root((1, root * root)), (1, root))
        self.assertEqual(frac_root((root ** 2, (root - 1) ** 2)), (root, root - 1))
        self.assertIsNone(frac_root((root * root + 1, 1)))
        self.assertIsNone(frac_root((root * root - 1, 1)))
        self.assertIsNone(frac_root((1, root * root - 1)))
        self.assertIsNone(frac_root((-root * root, 1)))

    def test_wrong(self):
        for wrong in wrong_things():
            with self.assertRaises(NoFraction, msg=wrong):
                frac_root(wrong)


if __name__ == "__main__":
    unittest.main()
