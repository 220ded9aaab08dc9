"""[11.1], [11.2] Ways from stand to stand, and partings."""
import unittest
from fractions import Fraction
from random import Random

from fourcreases.errors import BadHeld, NoStand, NotHeld
from fourcreases.motions import motions, motions_with, one_motion
from fourcreases.stands import is_stand
from fourcreases.ways import is_parting, is_way, parting, way
from tests.makers import (
    chain_net, fold_net, grid, kites, ladder, pair, rhombs, single, small_fold_net, star, triangle_nets, with_fins,
    worth, zigzag,
)
from tests.reckoning import mixed, null_rows, sum_of, whole_rows
from tests.test_motions import small_sheets
from tests.things import DIGITS_40, unchanged, wrong_things

ONE = ((1, 1), (-1, 2), (1, 1), (1, 2))
OTHER = ((1, 1), (2, 1), (-1, 1), (2, 1))
FLAT = ((0, 1),) * 4


def multiple(numbers, factor):
    return tuple(pair(worth(number) * factor) for number in numbers)


def sign(number):
    return (number[0] > 0) - (number[0] < 0)


def keeps(sheet, held, numbers):
    return all(abs(worth(numbers[sheet.creases.index(crease)])) >= worth(told) for crease, told in held.items())


def same_signs(sheet, held, one, other):
    places = [sheet.creases.index(crease) for crease in held]
    return all(sign(one[place]) == sign(other[place]) for place in places)


def judge_way(sheet, one, other, held, row):
    """Judge a way by the words of the document."""
    return (
        tuple(row[0]) == tuple(one) and tuple(row[-1]) == tuple(other)
        and all(is_stand(sheet, numbers) and keeps(sheet, held, numbers) for numbers in row)
        and all(one_motion(sheet, [a, b]) is not None and same_signs(sheet, held, a, b) for a, b in zip(row, row[1:]))
    )


def in_common(motion, other, wide):
    """Rows of all stands in two motions, by linear equations."""
    one, two = whole_rows(motion), whole_rows(other)
    system = [[row[place] for row in one] + [-row[place] for row in two] for place in range(wide)]
    return [mixed(one, factors[:len(one)], wide) for factors in null_rows(system, len(one) + len(two))]


def judge_parting(sheet, one, other, held, thing):
    """Judge a parting of the right form by the words of the document."""
    if thing[0] == "signs":
        place = sheet.creases.index(thing[1])
        return thing[1] in held and sign(one[place]) != sign(other[place])
    _, row, weights = thing
    found = motions(sheet)
    wide = len(sheet.creases)
    if not set(motions_with(sheet, one)) <= set(row) or set(motions_with(sheet, other)) & set(row):
        return False
    if set(weights) != {(k, j) for k in row for j in range(len(found)) if j not in row}:
        return False
    for (k, j), told in weights.items():
        if not told or set(told) - set(held) or not any(weight[0] for weight in told.values()):
            return False
        for x in in_common(found[k], found[j], wide):
            places = {sheet.creases.index(crease): weight for crease, weight in told.items()}
            if sum(worth(weight) * sign(one[place]) * x[place] for place, weight in places.items()):
                return False
    return True


def some_stand(sheet, random):
    rows = random.choice(motions(sheet))
    return sum_of(rows, [Fraction(random.choice((-2, -1, 0, 1, 1, 3)), random.randrange(1, 4)) for _ in rows],
                  len(sheet.creases))


def some_cases(many):
    """Sheets with two stands and something held that both keep."""
    for sheet in [*small_sheets(), *triangle_nets(), kites(2), kites(3), chain_net(3), chain_net(4), zigzag(4, 4), with_fins(star(), 2)]:
        random = Random(21)
        for _ in range(many):
            one, other = some_stand(sheet, random), some_stand(sheet, random)
            both = [place for place in range(len(one)) if one[place][0] and other[place][0]]
            if random.random() < 0.7:
                both = [place for place in both if sign(one[place]) == sign(other[place])]
            held = {}
            for place in random.sample(both, min(len(both), random.randrange(4))):
                held[sheet.creases[place]] = pair(min(abs(worth(one[place])), abs(worth(other[place]))))
            yield sheet, one, other, held


class WayTest(unittest.TestCase):
    def test_just_one_of_a_way_and_a_parting(self):
        kinds = {}
        for sheet, one, other, held in some_cases(14):
            row, thing = way(sheet, one, other, held), parting(sheet, one, other, held)
            self.assertEqual(row is None, thing is not None)
            if row is None:
                self.check_parting(sheet, one, other, held, thing)
                kind = thing[0]
            else:
                self.check_way(sheet, one, other, held, row)
                kind = len(row)
            kinds[kind] = kinds.get(kind, 0) + 1
        self.assertEqual(set(kinds), {1, 2, 3, "signs", "motions"})
        self.assertGreater(min(kinds.values()), 4)

    def check_way(self, sheet, one, other, held, row):
        self.assertIs(type(row), list)
        self.assertEqual({type(numbers) for numbers in row}, {tuple})
        self.assertTrue(judge_way(sheet, one, other, held, row))
        self.assertIs(is_way(sheet, one, other, held, row), True)
        self.assertIs(is_way(sheet, list(one), other, held, tuple(list(numbers) for numbers in row)), True)
        # As short as possible: one stand if they are equal, two only in one motion.
        if one == other:
            self.assertEqual(len(row), 1)
        elif one_motion(sheet, [one, other]) is not None:
            self.assertEqual(len(row), 2)
        else:
            self.assertEqual(len(row), 3)

    def check_parting(self, sheet, one, other, held, thing):
        self.assertIs(type(thing), tuple)
        self.assertTrue(judge_parting(sheet, one, other, held, thing))
        self.assertIs(is_parting(sheet, one, other, held, thing), True)
        if thing[0] == "motions":
            self.assertIs(type(thing[1]), tuple)
            self.assertEqual({type(told) for told in thing[2].values()} | {type(thing[2])}, {dict})
            self.assertIs(is_parting(sheet, one, other, held, ("motions", list(thing[1]), thing[2])), True)

    def test_nothing_held(self):
        self.assertEqual(way(star(), ONE, OTHER, {}), [ONE, FLAT, OTHER])
        self.assertEqual(way(star(), ONE, multiple(ONE, -3), {}), [ONE, multiple(ONE, -3)])
        self.assertEqual(way(star(), list(ONE), list(ONE), {}), [ONE])
        self.assertEqual(way(star(), FLAT, OTHER, {}), [FLAT, OTHER])
        self.assertEqual(way(single(), [], (), {}), [()])
        for sheet in (fold_net(), chain_net(9), kites(9), rhombs(9)):
            random = Random(22)
            one, other = some_stand(sheet, random), some_stand(sheet, random)
            self.check_way(sheet, one, other, {}, way(sheet, one, other, {}))
            self.assertIsNone(parting(sheet, one, other, {}))

    def test_one_crease_held(self):
        held = {(0, 1): (1, 2)}
        self.assertIsNone(way(star(), ONE, OTHER, held))
        self.assertEqual(parting(star(), ONE, OTHER, held), ("motions", (0,), {(0, 1): {(0, 1): (1, 1)}}))
        self.assertEqual(way(star(), ONE, multiple(ONE, 5), held), [ONE, multiple(ONE, 5)])
        self.assertIsNone(way(star(), ONE, multiple(ONE, -5), held))
        self.assertEqual(parting(star(), ONE, multiple(ONE, -5), held), ("signs", (0, 1)))
        self.assertEqual(way(star(), ONE, ONE, {(0, 1): (1, 1), (0, 2): (1, 2)}), [ONE])

    def test_over_what_is_held_alone(self):
        sheet = kites(2)
        found = motions(sheet)
        self.assertEqual(len(found), 4)
        first = [crease for crease in sheet.around(sheet.inner[0]) if crease not in sheet.around(sheet.inner[1])]
        kinds = set()
        for one_rows in found:
            for other_rows in found:
                one, other = [sum_of(rows, [1] * len(rows), len(sheet.creases)) for rows in (one_rows, other_rows)]
                for crease in first:
                    place = sheet.creases.index(crease)
                    if one[place][0] and other[place][0] and sign(one[place]) == sign(other[place]):
                        held = {crease: pair(min(abs(worth(one[place])), abs(worth(other[place]))))}
                        row = way(sheet, one, other, held)
                        # Only the first corner is held: it must be on the same line in both.
                        around = [sheet.creases.index(other_one) for other_one in sheet.around(sheet.inner[0])]
                        alike = [one[spot] for spot in around] == [other[spot] for spot in around]
                        self.assertEqual(row is not None, alike)
                        if row is None:
                            self.check_parting(sheet, one, other, held, parting(sheet, one, other, held))
                        else:
                            self.check_way(sheet, one, other, held, row)
                        kinds.add(None if row is None else len(row))
        self.assertEqual(kinds, {None, 1, 3})

    def test_large_sheets(self):
        sheet = kites(9)
        crease = next(crease for crease in sheet.around(sheet.inner[4])
                      if sum(rows[0][sheet.creases.index(crease)] != (0, 1) for rows in corner_rows(sheet, 4)) == 2)
        one, other = [rows[0] for rows in corner_rows(sheet, 4)]
        place = sheet.creases.index(crease)
        one, other = [multiple(numbers, 1 / worth(numbers[place])) for numbers in (one, other)]
        thing = parting(sheet, one, other, {crease: (1, 2)})
        self.assertEqual((len(thing[1]), len(thing[2])), (256, 65536))
        self.assertIs(is_parting(sheet, one, other, {crease: (1, 2)}, thing), True)
        self.assertIsNone(way(sheet, one, other, {crease: (1, 2)}))
        del thing[2][(thing[1][3], next(j for j in range(512) if j not in thing[1]))]
        self.assertIs(is_parting(sheet, one, other, {crease: (1, 2)}, thing), False)
        sheet = chain_net(9)
        one, other = [rows[0] for rows in (motions(sheet)[3], motions(sheet)[400])]
        one, other = [multiple(numbers, DIGITS_40) for numbers in (one, other)]
        held = {crease: (1, 1) for crease in sheet.creases[-6:]}
        self.assertIsNone(way(sheet, one, other, held))
        self.check_is_parting(sheet, one, other, held)

    def check_is_parting(self, sheet, one, other, held):
        thing = parting(sheet, one, other, held)
        self.assertIs(is_parting(sheet, one, other, held, thing), True)

    def test_signs(self):
        sheet = ladder(4)
        one, other = ((1, 1), (2, 1), (-3, 1)), ((2, 1), (-2, 1), (3, 1))
        self.assertEqual(way(sheet, one, other, {sheet.creases[0]: (1, 1)}), [one, other])
        for held in ({sheet.creases[1]: (1, 1)}, {sheet.creases[0]: (1, 1), sheet.creases[2]: (3, 1)}):
            self.assertIsNone(way(sheet, one, other, held))
            thing = parting(sheet, one, other, held)
            self.assertEqual(thing[0], "signs")
            self.check_parting(sheet, one, other, held, thing)

    def test_the_order_of_keys_does_not_matter(self):
        for sheet, one, other, held in some_cases(6):
            turned = {crease: held[crease] for crease in list(held)[::-1]}
            self.assertEqual(way(sheet, one, other, turned), way(sheet, one, other, held))
            self.assertEqual(parting(sheet, one, other, turned), parting(sheet, one, other, held))

    def test_lists_are_new(self):
        first = way(star(), ONE, OTHER, {})
        first.append(7)
        self.assertEqual(way(star(), ONE, OTHER, {}), first[:-1])
        held = {(0, 1): (1, 2)}
        first = parting(star(), ONE, OTHER, held)
        first[2][0, 1].clear()
        self.assertEqual(parting(star(), ONE, OTHER, held)[2], {(0, 1): {(0, 1): (1, 1)}})
        sheet = kites(2)
        one, other = [rows[0] for rows in corner_rows(sheet, 0)]
        place = next(k for k in range(len(one)) if one[k][0] and other[k][0])
        one, other = [multiple(numbers, 1 / worth(numbers[place])) for numbers in (one, other)]
        weights = parting(sheet, one, other, {sheet.creases[place]: (1, 1)})[2]
        self.assertEqual(len({id(told) for told in weights.values()}), len(weights))


def corner_rows(sheet, at):
    """For both lines of a corner of a chain of kites the motion's rows that move this corner."""
    around = [sheet.creases.index(crease) for crease in sheet.around(sheet.inner[at])]
    found = {}
    for rows in motions(sheet):
        row = next(row for row in rows if any(row[place][0] for place in around))
        found.setdefault(row, [row])
    return list(found.values())


class IsWayTest(unittest.TestCase):
    def test_right_ones(self):
        for row in ([ONE, FLAT, OTHER], [ONE, ONE, FLAT, FLAT, OTHER], [ONE, multiple(ONE, -7), FLAT, OTHER, OTHER],
                    (ONE, list(FLAT), OTHER), [ONE] + [FLAT] * 698 + [OTHER]):
            self.assertIs(is_way(star(), ONE, OTHER, {}, row), True)
        held = {(0, 1): (1, 2)}
        self.assertIs(is_way(star(), ONE, ONE, held, [ONE, multiple(ONE, Fraction(1, 2)), multiple(ONE, 9), ONE]), True)
        self.assertIs(is_way(single(), [], [], {}, [()]), True)
        self.assertIs(is_way(single(), [], [], {}, ((), [], ())), True)

    def test_wrong_at_each_place(self):
        for row in (
            [], [ONE], [OTHER], [ONE, OTHER], [FLAT, ONE, FLAT, OTHER], [ONE, FLAT], [ONE, FLAT, OTHER, FLAT],
            [ONE, FLAT, ONE, OTHER], [OTHER, FLAT, ONE], [ONE, multiple(ONE, 2), OTHER], [multiple(ONE, 2), FLAT, OTHER],
            [ONE, FLAT, multiple(OTHER, 2)], [ONE, ((1, 1),) * 4, OTHER], [ONE, FLAT[:3], OTHER], [ONE, None, OTHER],
            [ONE, FLAT + FLAT[:1], OTHER], [ONE, [(0, 1)] * 3 + [(0, 2)], OTHER], {0: ONE}, [ONE, dict(enumerate(FLAT)), OTHER],
            [ONE, [0, 0, 0, 0], OTHER], [[ONE, FLAT, OTHER]], [ONE, FLAT, [OTHER]], (ONE, ((0, 1), (0, 1), (0, 1), (False, 1)), OTHER),
        ):
            self.assertIs(is_way(star(), ONE, OTHER, {}, row), False, row)
        for wrong in wrong_things():
            self.assertIs(is_way(star(), ONE, OTHER, {}, wrong), False, wrong)
            self.assertIs(is_way(star(), ONE, OTHER, {}, [ONE, wrong, OTHER]), False, wrong)
            self.assertIs(is_way(star(), ONE, OTHER, {}, [wrong, FLAT, OTHER]), False, wrong)
            self.assertIs(is_way(star(), ONE, OTHER, {}, [ONE, FLAT, wrong]), False, wrong)

    def test_what_is_held(self):
        held = {(0, 1): (1, 2)}
        for row in ([ONE, FLAT, OTHER], [ONE, OTHER]):
            self.assertIs(is_way(star(), ONE, OTHER, held, row), False)
        for factor, wanted in ((Fraction(1, 2), True), (Fraction(49, 100), False), (-1, False), (0, False), (3, True)):
            row = [ONE, multiple(ONE, factor), multiple(ONE, 2)]
            self.assertIs(is_way(star(), ONE, multiple(ONE, 2), held, row), wanted)
            self.assertIs(is_way(star(), ONE, multiple(ONE, 2), {}, row), True)
        self.assertIs(is_way(star(), ONE, multiple(ONE, -2), held, [ONE, multiple(ONE, -2)]), False)

    def test_long_ways(self):
        sheet = zigzag(3, 3)
        for rows in motions(sheet):
            stands = [multiple(rows[0], Fraction(k, 3)) for k in range(1, 200)]
            place = next(k for k, number in enumerate(rows[0]) if number[0])
            held = {sheet.creases[place]: (1, 3)}
            self.assertIs(is_way(sheet, stands[0], stands[-1], held, stands), True)
            self.assertIs(is_way(sheet, stands[0], stands[-1], {**held, sheet.creases[place]: (1, 4)}, stands), True)
            stands[150] = multiple(stands[150], -1)
            self.assertIs(is_way(sheet, stands[0], stands[-1], held, stands), False)
            self.assertIs(is_way(sheet, stands[0], stands[-1], {}, stands), True)


class IsPartingTest(unittest.TestCase):
    held = {(0, 1): (1, 2), (0, 4): (1, 2)}
    good = ("motions", (0,), {(0, 1): {(0, 1): (1, 1)}})

    def test_right_ones(self):
        weights = [
            {(0, 1): (1, 1)}, {(0, 4): (3, 7)}, {(0, 1): (1, 1), (0, 4): (0, 1)}, {(0, 1): (5, 1), (0, 4): (1, DIGITS_40)},
        ]
        for told in weights:
            for row in ((0,), [0]):
                self.assertIs(is_parting(star(), ONE, OTHER, self.held, ("motions", row, {(0, 1): told})), True)
            self.assertIs(is_parting(star(), OTHER, ONE, self.held, ("motions", [1], {(1, 0): told})), True)

    def test_wrong_at_each_place(self):
        told = {(0, 1): (1, 1)}
        for thing in [
            *wrong_things(), list(self.good), self.good[:2], (*self.good, 0), ("Motions", *self.good[1:]), (None, *self.good[1:]),
            ("signs", *self.good[1:]), ("motions", (1,), {(1, 0): told}), ("motions", (), {}), ("motions", (0, 1), {}),
            ("motions", (False,), {(0, 1): told}), ("motions", (0, 0), {(0, 1): told}), ("motions", (-1,), {(-1, 1): told}),
            ("motions", (2,), {(2, 1): told}), ("motions", 0, {(0, 1): told}), ("motions", {0: 1}, {(0, 1): told}),
            ("motions", "0", {(0, 1): told}), ("motions", ((0,),), {(0, 1): told}), ("motions", (None,), {(0, 1): told}),
            ("motions", (0,), {}), ("motions", (0,), {(1, 0): told}), ("motions", (0,), {(0, 1): told, (1, 0): told}),
            ("motions", (0,), {(False, 1): told}), ("motions", (0,), {(0, True): told}), ("motions", (0,), {(0, 0): told}),
            ("motions", (0,), {(0, 2): told}), ("motions", (0,), {0: told}), ("motions", (0,), {(0, 1, 1): told}),
            ("motions", (0,), {(0, 1): {}}), ("motions", (0,), {(0, 1): {(0, 1): (0, 1)}}),
            ("motions", (0,), {(0, 1): {(0, 1): (0, 1), (0, 4): (0, 1)}}), ("motions", (0,), {(0, 1): {(0, 1): (-1, 1)}}),
            ("motions", (0,), {(0, 1): {(0, 1): (-1, 1), (0, 4): (1, 1)}}), ("motions", (0,), {(0, 1): {(0, 2): (1, 1)}}),
            ("motions", (0,), {(0, 1): {(1, 0): (1, 1)}}), ("motions", (0,), {(0, 1): {(False, 1): (1, 1)}}),
            ("motions", (0,), {(0, 1): {(0, 1): (2, 2)}}), ("motions", (0,), {(0, 1): {(0, 1): 1}}),
            ("motions", (0,), {(0, 1): {(0, 1): (True, 1)}}), ("motions", (0,), {(0, 1): [((0, 1), (1, 1))]}),
            ("motions", (0,), {(0, 1): None}), ("motions", (0,), [((0, 1), told)]), ("motions", (0,), None),
            ("motions", (0,), {(0, 1): {**told, "a": (1, 1)}}), ("motions", (0,), {(0, 1): {(0, 1): None}}),
            ("signs", (0, 1)), ("signs", (0, 4)), ("signs", (0, 2)), ("signs", None), ("signs", [0, 1]), ("signs", (1, 0)),
            ("motions", star(), {(0, 1): told}), (star(), (0,), {(0, 1): told}),
        ]:
            self.assertIs(is_parting(star(), ONE, OTHER, self.held, thing), False, thing)
        self.assertIs(is_parting(star(), ONE, OTHER, self.held, self.good), True)

    def test_by_signs(self):
        other = multiple(ONE, -1)
        self.assertIs(is_parting(star(), ONE, other, self.held, ("signs", (0, 1))), True)
        self.assertIs(is_parting(star(), ONE, other, self.held, ("signs", (0, 4))), True)
        for thing in (
            ("signs", (0, 2)), ("signs", (0, 3)), ("signs", (False, 1)), ("signs", (1, 0)), ("signs", [0, 1]), ["signs", (0, 1)],
            ("Signs", (0, 1)), ("signs", (0, 1), 0), ("signs",), ("signs", {}), ("motions", (0, 1)), (None, (0, 1)),
            ("signs", (0, 5)), ("signs", star()), ("motions", (0,), {(0, 1): {(0, 1): (1, 1)}}),
        ):
            self.assertIs(is_parting(star(), ONE, other, self.held, thing), False, thing)

    def test_both_kinds(self):
        # Where signs are unlike and no motion leads over, each of both is right.
        other = multiple(OTHER, -1)
        for thing in (("signs", (0, 1)), self.good):
            self.assertIs(is_parting(star(), ONE, other, self.held, thing), True)

    def test_weights_that_do_not_vanish(self):
        kinds = set()
        for sheet, one, other, held in some_cases(10):
            places = motions_with(sheet, one)
            many = len(motions(sheet))
            if not held or many > 9:
                continue
            random = Random(len(held))
            for _ in range(4):
                row = sorted({*places, *random.sample(range(many), random.randrange(many))})
                pairs = [(k, j) for k in row for j in range(many) if j not in row]
                weights = {two: {crease: (random.randrange(3), 1) for crease in held} for two in pairs}
                thing = ("motions", tuple(row), weights)
                wanted = judge_parting(sheet, one, other, held, thing)
                self.assertIs(is_parting(sheet, one, other, held, thing), wanted)
                kinds.add(wanted)
        self.assertEqual(kinds, {True, False})

    def test_row_has_all_of_one_and_none_of_other(self):
        sheet = kites(2)
        one, other = [rows[0] for rows in corner_rows(sheet, 0)]
        place = next(k for k in range(len(one)) if one[k][0] and other[k][0])
        one, other = [multiple(numbers, 1 / worth(numbers[place])) for numbers in (one, other)]
        crease = sheet.creases[place]
        held = {crease: (1, 1)}
        thing = parting(sheet, one, other, held)
        self.assertEqual(len(thing[1]), 2)
        for row in ((thing[1][0],), (thing[1][1],), (0, 1, 2, 3), tuple({0, 1, 2, 3} - set(thing[1])), thing[1][::-1]):
            weights = {(k, j): {crease: (1, 1)} for k in row for j in range(4) if j not in row}
            self.assertIs(is_parting(sheet, one, other, held, ("motions", row, weights)), False)
        self.assertIs(is_parting(sheet, one, other, held, thing), True)


class WrongTest(unittest.TestCase):
    def each(self, error, *arguments):
        caught = []
        for call in (way, parting):
            with self.assertRaises(error, msg=arguments) as found:
                call(star(), *arguments)
            caught.append(found.exception)
        for call in (is_way, is_parting):
            for thing in ([ONE], None):
                with self.assertRaises(error, msg=arguments) as found:
                    call(star(), *arguments, thing)
                caught.append(found.exception)
        return caught

    def test_stands(self):
        for wrong in [*wrong_things(), [(1, 1)] * 4, [(0, 1)] * 3]:
            for held in ({}, None, {(0, 1): (1, 1)}):
                self.each(NoStand, wrong, ONE, held)
                self.each(NoStand, ONE, wrong, held)
                self.each(NoStand, FLAT, wrong, held)

    def test_bad_held(self):
        seven = {crease: (1, 1) for crease in ladder(9).creases[:7]}
        for wrong in [
            *[thing for thing in wrong_things() if thing not in ({}, {(0, 1): (1, 2)})], {(1, 0): (1, 1)}, {(0, 5): (1, 1)},
            {(False, 1): (1, 1)}, {(0, True): (1, 1)}, {(0, 1): (2, 2)}, {(0, 1): 1}, {(0, 1): [1, 1]}, {(0, 1): None},
            {(0, 1): (0, 1)}, {(0, 1): (-1, 1)}, {(0, 1): (True, 1)}, {(0, 1): (1, 1), "a": (1, 1)}, [((0, 1), (1, 1))],
            {(0, 1): (1, 1), (0, 2): (-1, DIGITS_40)}, {None: (1, 1)},
        ]:
            self.each(BadHeld, ONE, OTHER, wrong)
            self.each(BadHeld, FLAT, FLAT, wrong)
        flat = ((0, 1),) * 8
        with self.assertRaises(BadHeld):
            way(ladder(9), flat, flat, seven)
        ones = ((1, 1),) * 8
        six = {crease: (1, 1) for crease in ladder(9).creases[:6]}
        self.assertEqual(way(ladder(9), ones, ones, six), [ones])
        with self.assertRaises(BadHeld):
            way(ladder(9), ones, ones, seven)

    def test_not_held(self):
        for one, other, held, at in (
            (FLAT, FLAT, {(0, 1): (1, 1)}, 0), (ONE, FLAT, {(0, 1): (1, 1)}, 1), (FLAT, ONE, {(0, 1): (1, 1)}, 0),
            (ONE, OTHER, {(0, 1): (2, 1)}, 0), (multiple(ONE, 2), OTHER, {(0, 1): (2, 1)}, 1),
            (ONE, OTHER, {(0, 1): (1, 1), (0, 2): (1, 1)}, 0), (multiple(ONE, -1), ONE, {(0, 1): (3, 2)}, 0),
            (multiple(ONE, -2), ONE, {(0, 1): (3, 2)}, 1), (ONE, ONE, {(0, 1): (DIGITS_40, DIGITS_40 - 1)}, 0),
        ):
            for caught in self.each(NotHeld, one, other, held):
                self.assertEqual(caught.at, at)
        self.assertEqual(way(star(), ONE, ONE, {(0, 1): (1, 1), (0, 2): (1, 2)}), [ONE])

    def test_by_name_and_unchanged(self):
        held = {(0, 1): (1, 2)}
        one, other = list(ONE), list(OTHER)
        self.assertIsNone(way(held=held, other=other, one=one, sheet=star()))
        thing = parting(held=held, other=other, one=one, sheet=star())
        self.assertIs(is_parting(thing=thing, held=held, other=other, one=one, sheet=star()), True)
        self.assertIs(is_way(thing=[ONE, FLAT, OTHER], held={}, other=other, one=one, sheet=star()), True)
        self.assertEqual(unchanged(self, way, star(), one, other, {}), [ONE, FLAT, OTHER])
        self.assertIsNone(unchanged(self, way, star(), one, other, held))
        self.assertEqual(unchanged(self, parting, star(), one, other, held), thing)
        self.assertIs(unchanged(self, is_parting, star(), one, other, held, thing), True)
        self.assertIs(unchanged(self, is_way, star(), one, other, held, [one, other]), False)

    def test_other_sheets(self):
        sheet = grid(3, 3)
        one, other = [rows[0] for rows in motions(sheet)]
        self.assertEqual(way(sheet, one, other, {}), [one, ((0, 1),) * 12, other])
        sheet = small_fold_net()
        numbers = next(rows for rows in motions(sheet) if rows)[0]
        held = {crease: (1, DIGITS_40) for crease in sheet.creases[3:9]}
        self.assertEqual(way(sheet, numbers, multiple(numbers, 3), held), [numbers, multiple(numbers, 3)])
        self.assertEqual(parting(sheet, numbers, multiple(numbers, -3), held), ("signs", sheet.creases[3]))


if __name__ == "__main__":
    unittest.main()
