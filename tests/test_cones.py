"""Where sums of multiples are all above 0."""
import unittest
from random import Random

from fourcreases.cones import above_all, searched, shortened


class ConesTest(unittest.TestCase):
    def judge(self, rows, call=above_all):
        """Check that just one of numbers and weights is found, and that it is right."""
        numbers, weights = call(rows)
        many = len(rows[0])
        self.assertEqual(numbers is None, weights is not None)
        if weights is None:
            self.assertEqual(len(numbers), many)
            self.assertGreater(min(numbers), 0)
            self.assertGreater(min(sum(x * y for x, y in zip(row, numbers)) for row in rows), 0)
            return True
        self.assertTrue(weights and min(weights.values()) > 0)
        self.assertLessEqual(set(weights), set(range(many + len(rows))))
        every = [[int(k == j) for k in range(many)] for j in range(many)] + list(rows)
        for k in range(many):
            self.assertEqual(sum(weights[at] * every[at][k] for at in weights), 0)
        return False

    def test_small_rows(self):
        random = Random(1)
        seen = {}
        for many in (1, 2, 3, 4, 5, 6):
            for size in (1, 2, 9):
                for _ in range(250):
                    rows = [[random.randint(-size, size) for _ in range(many)] for _ in range(random.randint(1, 18))]
                    if random.random() < 0.7:
                        rows = [row if random.random() < 0.3 else [abs(x) or 1 for x in row] for row in rows]
                    found = self.judge(rows)
                    self.assertEqual(self.judge(rows, searched), found)
                    seen[found, many] = seen.get((found, many), 0) + 1
        self.assertGreater(min(seen.values()), 10)
        self.assertEqual(len(seen), 12)

    def test_edges(self):
        for rows, wanted in (
            ([[1, -1]], True), ([[1, -1], [-1, 1]], False), ([[0, 0]], False), ([[0, 1]], True), ([[-1, 0]], False),
            ([[1, -1, 0], [0, 1, -1], [-1, 0, 1]], False), ([[1, -1, 0], [0, 1, -1], [-1, 0, 2]], True), ([[5]], True),
            ([[2, -1], [-1, 2]], True), ([[2, -1], [-4, 2]], False), ([[2, -1], [-3, 2]], True),
        ):
            self.assertEqual(self.judge(rows), wanted, rows)

    def test_long_rows(self):
        random = Random(2)
        long = 10 ** 300
        seen = set()
        for many in (2, 4, 6):
            for _ in range(80):
                rows = [
                    [random.choice((1, 1, -1)) * random.randint(long, 9 * long) // random.choice((1, 7, 10 ** 40)) for _ in range(many)]
                    for _ in range(random.randint(1, 6))
                ]
                seen.add(self.judge(rows))
        self.assertEqual(seen, {True, False})

    def test_long_rows_that_just_do_or_just_do_not(self):
        # Rounded rows do not tell these apart.
        long = 10 ** 200
        self.assertTrue(self.judge([[long + 1, -long], [-long, long]]))
        self.assertFalse(self.judge([[long, -long], [-long, long]]))
        self.assertFalse(self.judge([[long - 1, -long], [-long, long]]))
        self.assertTrue(self.judge([[long, 1 - long], [-long, long]]))

    def test_rounded_down(self):
        self.assertEqual(shortened([5, -7, 0]), [5, -7, 0])
        row = [2 ** 150 + 1, -2 ** 150 - 1, 3, -3]
        self.assertEqual(shortened(row), [2 ** 99, -2 ** 99 - 1, 0, -1])


if __name__ == "__main__":
    unittest.main()
