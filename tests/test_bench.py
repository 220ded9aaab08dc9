"""[16.1] to [16.3] The bench."""
import unittest
from random import Random

from fourcreases.bench import Bench
from fourcreases.errors import (
    BadCorners, BadPlates, BadSheet, FoldError, LiesOver, NoCrease, NoPlate, NoUndo, TooMany,
)
from fourcreases.motions import can_fold, hands
from fourcreases.plane import is_plate, lie_over
from fourcreases.sheets import Sheet
from tests.makers import fold_net, grid, kites, point, points, rhombs, small_fold_net, star, stiff_net, with_fins
from tests.things import DIGITS_40, unchanged, wrong_things


def square(x, y, size=1):
    return tuple(points((x, y), (x + size, y), (x + size, y + size), (x, y + size)))


def plates_of(sheet):
    return [tuple(sheet.corners[corner] for corner in plate) for plate in sheet.plates]


def bench_of(plates):
    bench = Bench()
    for plate in plates:
        bench.put(plate)
    return bench


def state_of(bench):
    """All that can be seen of a bench: what lies there, what comes next, and what undo takes back, step by step."""
    def look(same):
        seen = [same.laid()]
        while True:
            number = same.put(square(10 ** 6, 0))
            same.undo()
            seen.append(number)
            try:
                same.undo()
            except NoUndo:
                return seen
            seen.append(same.laid())

    return bench.trying(look)


class PutTest(unittest.TestCase):
    def test_numbers_go_on(self):
        bench = Bench()
        self.assertEqual(bench.laid(), {})
        self.assertEqual([bench.put(square(k, 0)) for k in range(3)], [0, 1, 2])
        self.assertIsNone(bench.take(1))
        self.assertEqual(bench.put(points=square(5, 5)), 3)
        self.assertIsNone(bench.take(number=3))
        self.assertEqual(bench.put(square(1, 0)), 4)
        self.assertEqual(bench.laid(), {0: square(0, 0), 2: square(2, 0), 4: square(1, 0)})
        self.assertEqual(list(bench.laid()), [0, 2, 4])

    def test_laid_is_new(self):
        bench = Bench()
        told = [list(square(0, 0))[k] for k in range(4)]
        bench.put(told)
        told.append(point(9, 9))
        found = bench.laid()
        self.assertEqual(found, {0: square(0, 0)})
        self.assertIs(type(found[0]), tuple)
        found[1] = square(2, 2)
        del found[0]
        self.assertEqual(bench.laid(), {0: square(0, 0)})
        self.assertIsNot(bench.laid(), bench.laid())

    def test_arguments_stay(self):
        bench = Bench()
        self.assertEqual(unchanged(self, bench.put, list(square(0, 0))), 0)
        self.assertEqual(unchanged(self, bench.moves, list(square(1, 0))), [1])

    def test_no_plates(self):
        bench = bench_of([square(0, 0)])
        things = [
            *wrong_things(), square(4, 4)[::-1], square(4, 4)[:2], points((0, 9), (1, 9), (2, 9)), points((0, 9), (1, 9), (0, 10)),
            [*square(4, 4)[:3], None], points((4, 4), (5, 4), (6, 4), (6, 6), (4, 6)),
        ]
        for thing in things:
            self.assertFalse(is_plate(thing))
            self.assertRaises(NoPlate, Bench().put, thing)
            self.assertRaises(NoPlate, Bench().moves, thing)
            self.assertRaises(NoPlate, bench.put, thing)
            self.assertRaises(NoPlate, bench.moves, thing)
        self.assertEqual(bench.laid(), {0: square(0, 0)})
        self.assertEqual(bench.put(square(4, 4)), 1)

    def check_over(self, bench, plate, number):
        before = state_of(bench)
        for call in (bench.put, bench.moves):
            with self.assertRaises(LiesOver) as caught:
                call(plate)
            self.assertEqual(caught.exception.number, number)
        self.assertEqual(state_of(bench), before)

    def test_lies_over_the_least_number(self):
        bench = bench_of([square(k, 0) for k in range(4)])
        for k in range(4):
            self.check_over(bench, square(k, 0), k)
            self.check_over(bench, square((2 * k + 1) / 2, 0), k)
        self.check_over(bench, square(0, 0, 9), 0)
        bench.take(0)
        self.check_over(bench, square(0, 0, 9), 1)
        bench.put(square(0, 0))
        self.check_over(bench, square(0, 0, 9), 1)
        bench.take(1)
        self.check_over(bench, square(0, 0, 2), 4)
        bench.undo()
        self.check_over(bench, square(0, 0, 2), 1)
        self.assertEqual(bench.put(square(4, 0)), 5)

    def test_over_by_random_plates(self):
        random = Random(1)
        bench, lying = Bench(), {}
        coming = 0
        for _ in range(150):
            plate = square(random.randint(0, 12) / 2, random.randint(0, 12) / 2, random.randint(1, 2))
            over = [number for number in sorted(lying) if lie_over(plate, lying[number])]
            if over:
                self.check_over(bench, plate, over[0])
            else:
                self.assertEqual(bench.put(plate), coming)
                lying[coming] = plate
                coming += 1
            if lying and random.random() < 0.2:
                number = random.choice(sorted(lying))
                bench.take(number)
                del lying[number]
            self.assertEqual(bench.laid(), lying)

    def test_taking_what_does_not_lie_there(self):
        bench = bench_of([square(0, 0), square(1, 0), square(2, 0)])
        bench.take(1)
        for number in [1, 3, -1, True, False, (0,), "0", None, DIGITS_40, [0], {0: 0}, (0, 1), *wrong_things()]:
            if number is not False and number == 0 and not isinstance(number, bool):
                continue
            self.assertRaises(NoPlate, bench.take, number)
        self.assertEqual(list(bench.laid()), [0, 2])
        bench.undo()
        self.assertEqual(list(bench.laid()), [0, 1, 2])


class UndoTest(unittest.TestCase):
    def test_numbers_come_again(self):
        bench = Bench()
        self.assertRaises(NoUndo, bench.undo)
        bench.put(square(0, 0))
        self.assertIsNone(bench.undo())
        self.assertEqual(bench.laid(), {})
        self.assertRaises(NoUndo, bench.undo)
        self.assertEqual(bench.put(square(5, 5)), 0)
        self.assertEqual(bench.put(square(7, 7)), 1)
        bench.take(1)
        bench.undo()
        self.assertEqual(bench.laid(), {0: square(5, 5), 1: square(7, 7)})
        bench.undo()
        self.assertEqual(bench.laid(), {0: square(5, 5)})
        self.assertEqual(bench.put(square(9, 9)), 1)
        bench.take(0)
        bench.take(1)
        bench.undo()
        bench.undo()
        bench.undo()
        bench.undo()
        self.assertEqual(bench.laid(), {})
        self.assertRaises(NoUndo, bench.undo)

    def test_a_put_behind_a_take(self):
        bench = bench_of([square(0, 0), square(1, 0)])
        bench.take(1)
        self.assertEqual(bench.put(square(1, 0)), 2)
        bench.undo()
        self.assertEqual(bench.laid(), {0: square(0, 0)})
        self.assertEqual(bench.put(square(3, 0)), 2)
        bench.undo()
        bench.undo()
        self.assertEqual(list(bench.laid()), [0, 1])
        self.assertEqual(bench.put(square(3, 0)), 2)

    def test_against_copies_of_all_states(self):
        random = Random(2)
        bench, states, coming = Bench(), [], 0
        lying = {}
        for _ in range(600):
            deed = random.random()
            if deed < 0.45:
                plate = square(random.randint(0, 7), random.randint(0, 7))
                if plate not in lying.values():
                    states.append((dict(lying), coming))
                    self.assertEqual(bench.put(plate), coming)
                    lying[coming] = plate
                    coming += 1
            elif deed < 0.65 and lying:
                number = random.choice(sorted(lying))
                states.append((dict(lying), coming))
                bench.take(number)
                del lying[number]
            elif states:
                lying, coming = states.pop()
                bench.undo()
            else:
                self.assertRaises(NoUndo, bench.undo)
            self.assertEqual(bench.laid(), lying)
            self.assertEqual(list(bench.laid()), sorted(lying))

    def test_what_failed_is_not_taken_back(self):
        bench = bench_of([square(0, 0), square(1, 0)])
        for deed in (lambda: bench.put(square(0, 0)), lambda: bench.put(None), lambda: bench.take(5), lambda: bench.moves(3)):
            self.assertRaises(FoldError, deed)
        bench.made()
        bench.moves(square(2, 0))
        bench.undo()
        self.assertEqual(list(bench.laid()), [0])

    def test_benches_are_apart(self):
        one, other = Bench(), Bench()
        one.put(square(0, 0))
        self.assertEqual(other.laid(), {})
        self.assertRaises(NoUndo, other.undo)
        self.assertEqual(other.put(square(0, 0)), 0)


class MadeTest(unittest.TestCase):
    def test_corners_as_they_come(self):
        bench = Bench()
        self.assertEqual(bench.put(square(1, 0)), 0)
        bench.put(square(2, 0))
        bench.put(square(0, 0))
        corners = points((1, 0), (2, 0), (2, 1), (1, 1), (3, 0), (3, 1), (0, 0), (0, 1))
        sheet = Sheet(corners, [(0, 1, 2, 3), (1, 4, 5, 2), (6, 0, 3, 7)])
        self.assertEqual(bench.made(), sheet)
        # Behind a take of the first one and a put of it again it is the last one.
        bench.take(0)
        bench.put(square(1, 0))
        corners = points((2, 0), (3, 0), (3, 1), (2, 1), (0, 0), (1, 0), (1, 1), (0, 1))
        self.assertEqual(bench.made(), Sheet(corners, [(0, 1, 2, 3), (4, 5, 6, 7), (5, 0, 3, 6)]))
        bench.undo()
        bench.undo()
        self.assertEqual(bench.made(), sheet)

    def test_plates_of_sheets(self):
        for sheet in (star(), grid(3, 3), small_fold_net(), fold_net(), stiff_net(), kites(9), with_fins(rhombs(9), 4)):
            made = bench_of(plates_of(sheet)).made()
            self.assertEqual(plates_of(made), plates_of(sheet))
            found = list(dict.fromkeys(spot for plate in plates_of(sheet) for spot in plate))
            self.assertEqual(list(made.corners), found)
            self.assertEqual(hands(made) and sorted(hands(made)), sorted(hands(sheet)))

    def check_raised(self, bench, error, *fields):
        calls = [bench.made, lambda: bench.folds(point(0, 0), point(1, 0)), lambda: bench.folds(None, [])]
        for call in calls:
            with self.assertRaises(error) as caught:
                call()
            self.assertEqual(tuple(vars(caught.exception).values()), fields)

    def test_what_sheet_raises(self):
        bench = Bench()
        self.check_raised(bench, BadCorners, -1)
        bench = bench_of([square(0, 0), square(3, 3)])
        self.check_raised(bench, BadSheet, "apart", 1)
        self.check_raised(bench_of([square(0, 0), square(1, 1)]), BadSheet, "rim", 2)
        self.check_raised(bench_of([square(0, 0), square(1, 1 / 2)]), BadSheet, "touch", 2)
        many = bench_of([square(k, j) for j in range(5) for k in range(6)])
        self.check_raised(many, TooMany, 9)
        self.check_raised(bench_of([square(k, 0) for k in range(41)]), BadCorners, -1)
        self.check_raised(bench_of([square(k, j) for j in range(6) for k in range(7)]), BadPlates, -1)

    def test_folds(self):
        sheet = star()
        bench = bench_of(plates_of(sheet))
        for a, b in sheet.creases:
            one, other = sheet.corners[a], sheet.corners[b]
            self.assertIs(bench.folds(one, other), True)
            self.assertIs(bench.folds(other=one, one=other), True)
        stiff = stiff_net()
        bench = bench_of(plates_of(stiff))
        for a, b in stiff.creases[::5]:
            self.assertIs(bench.folds(stiff.corners[b], stiff.corners[a]), False)
        half = with_fins(stiff, 3)
        bench = bench_of(plates_of(half))
        seen = set()
        for a, b in half.creases:
            self.assertIs(bench.folds(half.corners[a], half.corners[b]), can_fold(half, (a, b)))
            seen.add(can_fold(half, (a, b)))
        self.assertEqual(seen, {True, False})

    def test_no_creases(self):
        bench = bench_of([square(0, 0), square(1, 0)])
        self.assertIs(bench.folds(point(1, 0), point(1, 1)), True)
        for one, other in [
            (point(0, 0), point(1, 0)), (point(1, 0), point(1, 0)), (point(1, 0), point(0, 1)), (point(1, 0), point(5, 5)),
            (point(5, 5), point(1, 1)), ((1, 0), (1, 1)), (((True, 1), (0, 1)), point(1, 1)),
            (list(point(1, 0)), point(1, 1)), (point(1, 0), ((2, 2), (1, 1))), (1, 4),
        ]:
            self.assertRaises(NoCrease, bench.folds, one, other)
        for thing in wrong_things():
            if thing != point(1, 1):
                self.assertRaises(NoCrease, bench.folds, thing, point(1, 1))
                self.assertRaises(NoCrease, bench.folds, point(1, 0), thing)
        bench.take(1)
        self.assertRaises(NoCrease, bench.folds, point(1, 0), point(1, 1))


class MovesTest(unittest.TestCase):
    def test_lays_nothing(self):
        bench = bench_of([square(0, 0), square(1, 0), square(0, 1)])
        before = state_of(bench)
        self.assertEqual(bench.moves(square(1, 1)), [1, 1])
        self.assertEqual(bench.moves(points=list(square(2, 0))), [3])
        self.assertEqual(state_of(bench), before)
        self.assertEqual(bench.put(square(1, 1)), 3)
        self.assertEqual(hands(bench.made()), [1, 1])
        self.assertEqual(bench.moves(square(2, 0)), [2, 2])

    def test_against_the_sheet_with_one_more(self):
        for sheet in (star(), small_fold_net(), fold_net(), grid(3, 3), kites(4)):
            plates = plates_of(sheet)
            bench = bench_of(plates[:-1])
            moves = bench.moves(plates[-1])
            bench.put(plates[-1])
            self.assertEqual(moves, hands(bench.made()))
            self.assertIs(type(moves), list)

    def test_what_sheet_raises(self):
        bench = Bench()
        self.assertEqual(bench.moves(square(0, 0)), [0])
        bench.put(square(0, 0))
        with self.assertRaises(BadSheet) as caught:
            bench.moves(square(1, 1))
        self.assertEqual((caught.exception.word, caught.exception.at), ("rim", 2))
        self.assertRaises(LiesOver, bench.moves, square(0, 0))
        self.assertRaises(BadSheet, bench.moves, square(4, 4))
        bench.put(square(4, 4))
        self.assertRaises(NoPlate, bench.moves, None)
        self.assertRaises(LiesOver, bench.moves, square(4, 4))
        self.assertRaises(BadSheet, bench.moves, square(1, 0))
        self.assertEqual(list(bench.laid()), [0, 1])


class Oops(Exception):
    pass


class TryingTest(unittest.TestCase):
    def test_returns_what_the_deed_returns(self):
        bench = bench_of([square(0, 0)])
        thing = [1, 2]
        self.assertIs(bench.trying(lambda same: thing), thing)
        self.assertIs(bench.trying(deed=lambda same: same), bench)
        self.assertIsNone(bench.trying(lambda same: None))

    def test_all_is_as_it_was(self):
        bench = bench_of([square(0, 0), square(1, 0)])
        bench.take(0)

        def deed(same):
            same.put(square(3, 0))
            same.take(1)
            same.undo()
            return same.put(square(4, 0)), same.laid()

        before = state_of(bench)
        self.assertEqual(bench.trying(deed), (3, {1: square(1, 0), 2: square(3, 0), 3: square(4, 0)}))
        self.assertEqual(state_of(bench), before)
        self.assertEqual(bench.trying(deed)[0], 3)
        self.assertEqual(bench.put(square(0, 0)), 2)

    def test_takes_back_what_was_laid_ahead(self):
        bench = bench_of([square(0, 0), square(1, 0), square(2, 0)])
        bench.take(1)

        def deed(same):
            for _ in range(4):
                same.undo()
            self.assertRaises(NoUndo, same.undo)
            self.assertEqual(same.put(square(7, 7)), 0)
            return same.laid()

        before = state_of(bench)
        self.assertEqual(bench.trying(deed), {0: square(7, 7)})
        self.assertEqual(state_of(bench), before)
        self.assertEqual(bench.laid(), {0: square(0, 0), 2: square(2, 0)})
        bench.undo()
        self.assertEqual(list(bench.laid()), [0, 1, 2])

    def test_errors_go_on(self):
        bench = bench_of([square(0, 0)])
        before = state_of(bench)
        raised = Oops("so")

        def deed(same):
            same.put(square(1, 0))
            same.undo()
            same.undo()
            same.put(square(2, 0))
            raise raised

        with self.assertRaises(Oops) as caught:
            bench.trying(deed)
        self.assertIs(caught.exception, raised)
        self.assertEqual(state_of(bench), before)
        with self.assertRaises(LiesOver):
            bench.trying(lambda same: (same.take(0), same.put(square(5, 0)), same.put(square(5, 0))))
        self.assertEqual(state_of(bench), before)
        self.assertEqual(bench.put(square(1, 0)), 1)

    def test_trials_within_trials(self):
        bench = bench_of([square(0, 0)])
        seen = []

        def inner(same):
            same.undo()
            same.undo()
            seen.append(same.laid())
            same.put(square(9, 9))
            raise Oops()

        def outer(same):
            same.put(square(1, 0))
            here = state_of(same)
            try:
                same.trying(inner)
            except Oops:
                seen.append(state_of(same) == here)
            seen.append(same.trying(lambda third: third.put(square(5, 5))))
            same.undo()
            seen.append(same.laid())
            return same.trying(lambda third: third.trying(lambda fourth: fourth.put(square(6, 6))))

        before = state_of(bench)
        self.assertEqual(bench.trying(outer), 1)
        self.assertEqual(seen, [{}, True, 2, {0: square(0, 0)}])
        self.assertEqual(state_of(bench), before)

    def test_on_the_bench_itself(self):
        bench = bench_of([square(0, 0), square(1, 0)])
        # The deed may also call the bench by another name than its parameter.
        self.assertEqual(bench.trying(lambda same: (bench.put(square(2, 0)), same.moves(square(3, 0)))), (2, [3]))
        self.assertEqual(list(bench.laid()), [0, 1])

    def test_laid_found_within_stays(self):
        bench = bench_of([square(0, 0)])
        kept = bench.trying(lambda same: (same.put(square(1, 0)), same.laid())[1])
        self.assertEqual(list(kept), [0, 1])
        self.assertEqual(list(bench.laid()), [0])


if __name__ == "__main__":
    unittest.main()
