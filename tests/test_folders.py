"""[17.1] Folders."""
import unittest
from random import Random

from fourcreases.errors import BadTries, NoStand
from fourcreases.folders import first_leap, first_wrong
from fourcreases.motions import motions, one_motion
from tests.makers import fold_net, grid, kites, pair, single, small_fold_net, star, stiff_net, worth, zigzag
from tests.reckoning import sum_of
from tests.things import DIGITS_40, wrong_things


def scaled(row, number):
    return tuple(pair(worth(x) * worth(number)) for x in row)


class Asked:
    """A folder that keeps what it was asked with."""

    def __init__(self, answers):
        self.answers = list(answers)
        self.tries = []

    def __call__(self, number):
        self.tries.append(number)
        return self.answers[len(self.tries) - 1]


class Oops(Exception):
    pass


ONE, OTHER = motions(star())[0][0], motions(star())[1][0]
FLAT = ((0, 1),) * 4
TRIES = [(k, 3) for k in (1, 2, 4, 5, 7)]


class WrongTest(unittest.TestCase):
    def check(self, answers, tries, wanted):
        for row in (list(tries), tuple(tries)):
            folder = Asked(answers)
            self.assertEqual(first_wrong(star(), folder, row), wanted)
            asked = len(tries) if wanted is None else wanted + 1
            self.assertEqual(folder.tries, list(tries)[:asked])

    def test_at_once_later_and_never(self):
        self.check([ONE, OTHER, FLAT, list(ONE), scaled(OTHER, (-2, 7))], TRIES, None)
        for wrong in [*wrong_things(), ((1, 1),) * 4, ONE[:3], (*ONE, (0, 1)), tuple(x for x, _ in ONE), set, {0: ONE}]:
            for at in range(5):
                answers = [ONE, OTHER, FLAT, ONE, OTHER]
                answers[at] = wrong
                self.check(answers, TRIES, at)
        self.check([None, None], TRIES[:2], 0)
        self.check([ONE], [(0, 1)], None)

    def test_a_fraction_twice(self):
        self.check([ONE, OTHER, FLAT], [(1, 2), (1, 2), (1, 2)], None)
        self.check([ONE, ONE, None, ONE], [(1, 2), (3, 1), (1, 2), (1, 2)], 2)

    def test_swings(self):
        for sheet in (star(), small_fold_net(), fold_net()):
            row = motions(sheet)[0][0]
            bad = ((1, 1),) * len(row)
            self.assertIsNone(first_wrong(sheet, lambda number: scaled(row, number), [(-9, 7), (0, 1), *TRIES]))
            self.assertEqual(first_wrong(folder=lambda number: scaled(row, number)[:-1], sheet=sheet, tries=TRIES), 0)
            self.assertEqual(first_wrong(sheet, lambda number: bad if number == (4, 3) else scaled(row, number), TRIES), 2)

    def test_sheets_without_creases(self):
        self.assertIsNone(first_wrong(single(), lambda number: (), TRIES))
        self.assertEqual(first_wrong(single(), lambda number: None, TRIES), 0)
        self.assertIsNone(first_leap(single(), lambda number: [], TRIES))


class LeapTest(unittest.TestCase):
    def check(self, sheet, answers, wanted):
        tries = [(k, 1) for k in range(len(answers))]
        folder = Asked(answers)
        self.assertEqual(first_leap(sheet, folder, tries), wanted)
        self.assertEqual(folder.tries, tries if wanted is None else tries[:wanted + 1])

    def test_from_one_motion_to_another(self):
        twice = scaled(ONE, (2, 1))
        self.check(star(), [ONE, twice, FLAT, ONE], None)
        self.check(star(), [ONE, OTHER], 1)
        self.check(star(), [FLAT, list(ONE), twice, OTHER, ONE], 3)
        # Through the flat stand it comes to the other motion, but no motion has all of them.
        self.check(star(), [ONE, FLAT, OTHER], 2)
        self.check(star(), [FLAT, FLAT, FLAT], None)

    def test_against_one_motion(self):
        random = Random(1)
        seen = set()
        for sheet in (star(), grid(3, 3), zigzag(3, 4), kites(4), small_fold_net(), stiff_net()):
            spaces = motions(sheet)
            wide = len(sheet.creases)
            for _ in range(25):
                answers = []
                few = random.sample(spaces, min(2, len(spaces)))
                for _ in range(6):
                    rows = few[random.random() < 0.2 and len(few) > 1]
                    factors = [random.choice((0, 0, 1, -2)) for _ in rows]
                    answers.append(sum_of(rows, factors, wide))
                wanted = next((k for k in range(6) if one_motion(sheet, answers[:k + 1]) is None), None)
                self.check(sheet, answers, wanted)
                seen.add(wanted)
        self.assertGreater(len(seen), 4)

    def test_no_stand(self):
        for wrong in [*wrong_things(), ((1, 1),) * 4, ONE[:3]]:
            for at in (0, 1, 3):
                answers = [ONE, FLAT, ONE, ONE]
                answers[at] = wrong
                folder = Asked(answers)
                self.assertRaises(NoStand, first_leap, star(), folder, TRIES[:4])
                self.assertEqual(folder.tries, TRIES[:at + 1])
        # Behind a leap it is not asked any more.
        self.check(star(), [ONE, OTHER, None], 1)
        folder = Asked([ONE, None, OTHER])
        self.assertRaises(NoStand, first_leap, star(), folder, TRIES[:3])


class TriesTest(unittest.TestCase):
    def test_wrong_tries(self):
        things = [
            *[thing for thing in wrong_things() if thing not in ([(1, 2), (3, 4)], ((1, 2),), ((1, 1),) * 3)],
            [], (), [(1, 1)] * 51, [(1, 1), (2, 4)], [(1, 1), None], [(1, 1), True], [(1, 1), 2], [(1, 1), [1, 1]],
            [(1, 1), (True, 1)], [(1, 1), (1, 0)], {(1, 1): 1}, "1/2", ((1, 2), ((1, 2),)), [((1, 1), (1, 1))],
        ]
        for tries in things:
            for call in (first_wrong, first_leap):
                folder = Asked([])
                self.assertRaises(BadTries, call, star(), folder, tries)
                self.assertEqual(folder.tries, [])

    def test_one_and_fifty(self):
        for many in (1, 50):
            tries = [(k, 7) if k % 7 else (k, 1) for k in range(1, many + 1)]
            for call in (first_wrong, first_leap):
                folder = Asked([ONE] * many)
                self.assertIsNone(call(star(), folder, tries))
                self.assertEqual(folder.tries, tries)
        self.assertIsNone(first_wrong(star(), lambda number: FLAT, [(DIGITS_40, 1)]))

    def test_tries_stay_as_they_were(self):
        for call in (first_wrong, first_leap):
            tries = list(TRIES)
            call(star(), lambda number: ONE, tries)
            self.assertEqual(tries, TRIES)
            # Even a folder that changes them is asked with what was passed.
            asked = []

            def folder(number):
                asked.append(number)
                tries.clear()
                return ONE

            self.assertIsNone(call(star(), folder, tries))
            self.assertEqual(asked, TRIES)

    def test_errors_go_on(self):
        raised = Oops("so")

        def folder(number):
            if number == TRIES[1]:
                raise raised
            return ONE

        for call in (first_wrong, first_leap):
            with self.assertRaises(Oops) as caught:
                call(star(), folder, TRIES)
            self.assertIs(caught.exception, raised)
            self.assertIsNone(call(star(), folder, TRIES[:1]))
            with self.assertRaises(BadTries):
                call(star(), folder, None)


if __name__ == "__main__":
    unittest.main()
