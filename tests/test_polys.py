"""The means of [7.1] and [7.2]: what divides polynomials, and how often they are 0."""
import unittest
from fractions import Fraction
from random import Random
from unittest.mock import patch

from fourcreases import factors
from fourcreases.factors import long_factor, shared_factor
from fourcreases.polys import exact_quotient, left_over, sum_of_products, value_of
from fourcreases.roots import count_by_squares, simple_part


def product(*polys):
    total = [1]
    for poly in polys:
        total = sum_of_products([(total, list(poly))])
    return total


def some_poly(random, many, size):
    return [random.randrange(-size, size) for _ in range(many)] + [random.randrange(1, size)]


def positive(poly):
    return poly if poly[-1] > 0 else [-part for part in poly]


class FactorsTest(unittest.TestCase):
    def check(self, polys, wanted):
        self.assertEqual(positive(shared_factor(polys)), wanted)
        self.assertEqual(positive(long_factor(polys)), wanted)

    def test_common_factors(self):
        random = Random(7)
        for many in (1, 2, 5):
            for size in (9, 10 ** 40, 10 ** 200):
                factor = [1, *some_poly(random, many, size)]
                rows = [product(factor, some_poly(random, 3, size), [6]) for _ in range(3)]
                self.check(rows, positive(factor))
                self.check([[], *rows, []], positive(factor))
                self.check([rows[0], factor, [], rows[0]], positive(factor))

    def test_nothing_in_common(self):
        random = Random(8)
        for size in (9, 10 ** 60):
            rows = [some_poly(random, many, size) for many in (6, 9)]
            self.check([*rows, [1, 1]], [1])
            self.check([[4], rows[0]], [1])
        self.check([[1, 0, 1], [1, 1]], [1])
        self.check([product([1, 1], [1, 2]), product([1, 2], [1, 3]), product([1, 1], [1, 3])], [1])

    def test_one_alone(self):
        self.check([[4, 0, -6]], [-2, 0, 3])
        self.check([[], [0, 0, 5]], [0, 0, 1])

    def test_primes_that_tell_too_much(self):
        random = Random(9)
        for powers in ((2,), (3,), (2, 3, 5), (3, 521), ()):
            with patch.object(factors, "POWERS", powers or (2,)):
                for _ in range(20):
                    factor = [1, *some_poly(random, 2, 9)]
                    one, other = product(factor, [1, 3]), product(factor, [8, 21])
                    self.assertEqual(positive(shared_factor([one, other])), positive(long_factor([one, other])))
                # Modulo 3 and 7 these have factors in common, or nothing is left of them.
                self.assertEqual(positive(shared_factor([[1, 21], [22, 21]])), [1])
                self.assertEqual(positive(shared_factor([[0, 1], [21, 1]])), [1])
                self.assertEqual(positive(shared_factor([[2, 21], [2, 0, 21]])), [1])

    def test_exact_quotient(self):
        self.assertEqual(exact_quotient([2, 3, 1], [1, 1]), [2, 1])
        self.assertIsNone(exact_quotient([2, 3, 1], [1, 2]))
        self.assertIsNone(exact_quotient([2, 3, 2], [1, 1]))
        self.assertIsNone(exact_quotient([1, 1], [1, 1, 1]))
        self.assertEqual(exact_quotient([], [1, 1]), [])
        self.assertEqual(exact_quotient([0, 0, -6], [0, 3]), [0, -2])

    def test_left_over(self):
        random = Random(10)
        for _ in range(50):
            one, other = some_poly(random, 5, 9), some_poly(random, 2, 9)
            other = other if random.random() < 0.5 else [-part for part in other]
            left = left_over(one, other)
            rest = list(map(Fraction, one))
            while len(rest) >= len(other):
                factor = rest[-1] / other[-1]
                gap = len(rest) - len(other)
                rest = rest[:gap] + [part - factor * worth for part, worth in zip(rest[gap:-1], other)]
            while rest and rest[-1] == 0:
                rest.pop()
            self.assertEqual(len(left), len(rest))
            if rest:
                self.assertGreater(left[-1] / rest[-1], 0)
                self.assertEqual([part * left[-1] / rest[-1] for part in rest], left)

    def test_value_of(self):
        self.assertEqual(value_of([1, -2, 3], 4, (1, 2)), (3, 16))
        self.assertEqual(value_of([], 4, (1, 2)), (0, 1))
        self.assertEqual(value_of([7], 14, (0, 1)), (1, 2))


class RootsTest(unittest.TestCase):
    def test_simple_part(self):
        poly = product([-1, 1], [-1, 1], [-2, 1], [-3, 1], [-3, 1], [-3, 1], [1, 0, 1], [1, 0, 1])
        self.assertEqual(positive(simple_part(poly)), product([-1, 1], [-2, 1], [-3, 1], [1, 0, 1]))
        self.assertEqual(simple_part([5]), [1])

    def test_count_by_squares(self):
        random = Random(11)
        for _ in range(60):
            roots = [random.randrange(1, 6) for _ in range(random.randrange(4))]
            poly = product([3], [5, 1], [1, 1, 1], *[[-root * root, 4] for root in roots])
            poly = poly if random.random() < 0.5 else [-part for part in poly]
            reals = {Fraction(sign * root, 2) for root in roots for sign in (1, -1)}
            for _ in range(12):
                low = Fraction(random.randrange(-13, 12), 4)
                high = low + Fraction(random.randrange(1, 12), 4)
                wanted = len([real for real in reals if low < real <= high])
                ends = [(end.numerator, end.denominator) for end in (low, high)]
                self.assertEqual(count_by_squares(poly, *ends), wanted)


if __name__ == "__main__":
    unittest.main()
