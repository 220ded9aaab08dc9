"""[7.1], [7.2] Polynomials, quotients and swings."""
import unittest
from fractions import Fraction
from itertools import product
from math import pi, tan

from fourcreases.errors import BadNumber, NoFraction, NoPolynomial, NoSpot, NoStand
from fourcreases.space import gap2
from fourcreases.swings import meeting_count, poly_at, quotient_at, stays_apart, swing_gap
from tests.makers import (
    chain_net, fold_net, grid, ladder, pair, point, rhombs, single, small_fold_net, star, strip, wide_star, worth,
    zigzag,
)
from tests.test_space import stands_of
from tests.things import DIGITS_40, unchanged, wrong_things


def poly(*parts):
    return tuple(pair(part) for part in parts)


def swung(numbers, s):
    return tuple(pair(worth(number) * Fraction(s)) for number in numbers)


def spots_of(sheet, every):
    found = []
    for number, plate in enumerate(sheet.plates):
        a, b, c = [tuple(map(worth, sheet.corners[corner])) for corner in plate[:3]]
        middle = point(*[(x + 2 * y + 3 * z) / 6 for x, y, z in zip(a, b, c)])
        found += [(number, sheet.corners[plate[1]]), (number, middle)]
    return found[::every]


def some_swings():
    """Sheets, stands and pairs of spots."""
    for sheet, every in (
        (star(), 1), (grid(2, 1), 1), (grid(3, 3), 5), (zigzag(3, 3), 5), (rhombs(2), 3), (small_fold_net(), 5),
        (wide_star(5), 2), (ladder(9), 5), (single(), 1), (strip([1, 2, 1, 3]), 2), (chain_net(3), 5),
    ):
        for numbers in stands_of(sheet):
            for one, other in product(spots_of(sheet, every), repeat=2):
                yield sheet, numbers, one, other


def remainder(one, other):
    rest = [worth(part) for part in one]
    other = [worth(part) for part in other]
    while len(rest) >= len(other):
        factor = rest[-1] / other[-1]
        gap = len(rest) - len(other)
        rest = rest[:gap] + [part - factor * part2 for part, part2 in zip(rest[gap:-1], other)]
        while rest and rest[-1] == 0:
            rest.pop()
    return poly(*rest)


def has_common(one, other):
    while other:
        one, other = other, remainder(one, other)
    return len(one) > 1


class PolyTest(unittest.TestCase):
    def test_values(self):
        self.assertEqual(poly_at(poly(1, -2, 3), (1, 2)), (3, 4))
        self.assertEqual(poly_at(poly(1, -2, 3), (0, 1)), (1, 1))
        self.assertEqual(poly_at((), (5, 7)), (0, 1))
        self.assertEqual(poly_at(poly(Fraction(-3, 4)), (5, 7)), (-3, 4))
        self.assertEqual(poly_at(poly(0, 0, 0, Fraction(1, 9)), (-3, 1)), (-3, 1))
        parts = [Fraction(DIGITS_40 + k, DIGITS_40 - 3 * k) for k in range(40)]
        s = Fraction(DIGITS_40, 7)
        self.assertEqual(poly_at(poly(*parts), pair(s)), pair(sum(part * s ** k for k, part in enumerate(parts))))

    def test_many_items(self):
        parts = poly(*[Fraction(k, DIGITS_40 - k) for k in range(1, 701)])
        self.assertEqual(poly_at(parts, (1, 1)), pair(sum(map(worth, parts))))
        self.assertEqual(quotient_at((parts, poly(3, 1)), (0, 1)), pair(worth(parts[0]) / 3))

    def test_no_polynomials(self):
        for wrong in [
            *wrong_things(), [(1, 1)], poly(1, 0), poly(0), ((2, 4),), ((1, 1), 1), ((1, 1), [1, 1]), ((1, 1), None),
            ((True, 1),), ((1, True),), (1, 2), ((1, 0),), ((0, 2), (1, 1)), ((1, -1),), {0: (1, 1)}, "1",
        ]:
            if wrong in ((), ((1, 2),), ((1, 1), (1, 1), (1, 1))):
                continue
            with self.assertRaises(NoPolynomial, msg=wrong):
                poly_at(wrong, (1, 1))
            with self.assertRaises(NoPolynomial, msg=wrong):
                poly_at(wrong, None)
            for quotient in ((wrong, poly(1)), (wrong, poly(2, 1)), (poly(1, 1), wrong), wrong):
                with self.assertRaises(NoPolynomial, msg=quotient):
                    quotient_at(quotient, (1, 1))

    def test_no_fractions(self):
        for wrong in wrong_things():
            if wrong in ([1, 2],) or not (isinstance(wrong, tuple) and wrong == (1, 2)):
                with self.assertRaises(NoFraction, msg=wrong):
                    poly_at(poly(1, 1), wrong)
                with self.assertRaises(NoFraction, msg=wrong):
                    quotient_at((poly(1, 1), poly(1)), wrong)

    def test_by_name_and_unchanged(self):
        self.assertEqual(poly_at(s=(2, 1), poly=poly(1, 1)), (3, 1))
        self.assertEqual(quotient_at(s=(2, 1), quotient=(poly(1, 1), poly(1))), (3, 1))
        self.assertEqual(unchanged(self, poly_at, poly(1, 1), (2, 1)), (3, 1))


class QuotientTest(unittest.TestCase):
    def test_values(self):
        self.assertEqual(quotient_at((poly(1, 2), poly(3, 1)), (1, 1)), (3, 4))
        self.assertEqual(quotient_at(((), poly(1)), (1, 1)), (0, 1))
        self.assertEqual(quotient_at((poly(4), poly(1, 0, 1)), (1, 1)), (2, 1))
        self.assertEqual(quotient_at((poly(Fraction(1, 2)), poly(1)), (9, 1)), (1, 2))
        self.assertEqual(quotient_at((poly(0, 1), poly(-1, 1)), (3, 1)), (3, 2))

    def test_bottom_is_nought(self):
        for s in (1, -1):
            with self.assertRaises(NoFraction):
                quotient_at((poly(1, 2), poly(-1, 0, 1)), pair(s))
        self.assertEqual(quotient_at((poly(1, 2), poly(-1, 0, 1)), (0, 1)), (-1, 1))

    def test_no_quotients(self):
        one = poly(1)
        for wrong in [
            *wrong_things(), (one,), (one, one, one), [one, one], (one, ()), ((), ()), (one, poly(2)), (one, poly(1, 2)),
            (one, poly(1, -1)), (one, poly(0)), ((), poly(1, 1)), ((), poly(2)), (poly(1, 0), one), (one, poly(1, 1, 0)),
            (list(one), one), (one, list(one)), (poly(1, 1), poly(1, 1)), (poly(2, 2), poly(1, 1)),
            (poly(-1, 0, 1), poly(1, 1)), (poly(1, 1), poly(-1, 0, 1)), (poly(0, 1), poly(0, 1)),
            (poly(1, 0, 2, 0, 1), poly(1, 0, 1)), (poly(0, 3), poly(0, 5, 1)), None, one, (1, 1), "ab",
            (poly(Fraction(DIGITS_40, 3), 1), poly(Fraction(DIGITS_40, 3), 1)),
        ]:
            for s in ((1, 2), None):
                with self.assertRaises(NoPolynomial, msg=wrong):
                    quotient_at(wrong, s)

    def test_lowest_terms(self):
        lines = [(1, 1), (2, 1), (Fraction(-7, DIGITS_40), 1), (Fraction(1, 3), 1), (0, 1), (-5, 1)]
        for one, other, third, fourth in product(lines, repeat=4):
            top, bottom = times(one, other), times(third, fourth)
            if {one, other} & {third, fourth}:
                with self.assertRaises(NoPolynomial):
                    quotient_at((poly(*top), poly(*bottom)), (3, 7))
            else:
                wanted = at(top, Fraction(3, 7)) / at(bottom, Fraction(3, 7))
                self.assertEqual(quotient_at((poly(*top), poly(*bottom)), (3, 7)), pair(wanted))

    def test_factors_without_rational_zeros(self):
        factor = (Fraction(2, 7), 0, 1)
        top, bottom = times(factor, (3, 5, 9)), times(factor, (DIGITS_40, 0, 0, 1))
        with self.assertRaises(NoPolynomial):
            quotient_at((poly(*top), poly(*bottom)), (1, 1))
        self.assertEqual(quotient_at((poly(*top), poly(DIGITS_40, 0, 0, 1)), (0, 1)), pair(Fraction(6, 7 * DIGITS_40)))

    def test_many_items(self):
        top = poly(*[Fraction(k * k + 1, k + 2) for k in range(300)])
        bottom = poly(*[Fraction(k, DIGITS_40 + k) for k in range(299)], 1)
        self.assertEqual(quotient_at((top, bottom), (1, 1)), pair(sum(map(worth, top)) / sum(map(worth, bottom))))
        with self.assertRaises(NoPolynomial):
            quotient_at((bottom, bottom), (1, 1))


def times(one, other):
    found = [Fraction(0)] * (len(one) + len(other) - 1)
    for j, a in enumerate(one):
        for k, b in enumerate(other):
            found[j + k] += Fraction(a) * b
    return found


def at(parts, s):
    return sum(part * s ** k for k, part in enumerate(parts))


class GapTest(unittest.TestCase):
    def test_two_squares(self):
        sheet = grid(2, 1)
        far = ((0, point(0, 0)), (1, point(2, 0)))
        self.assertEqual(swing_gap(sheet, [(1, 1)], *far), (poly(4), poly(1, 0, 1)))
        self.assertEqual(swing_gap(sheet, [(-2, 1)], *far), (poly(1), poly(Fraction(1, 4), 0, 1)))
        self.assertEqual(swing_gap(sheet, [(0, 1)], *far), (poly(4), poly(1)))
        self.assertEqual(swing_gap(sheet, [(1, 1)], far[0], (1, point(1, 0))), (poly(1), poly(1)))
        self.assertEqual(swing_gap(sheet, [(1, 1)], far[0], far[0]), ((), poly(1)))
        self.assertEqual(swing_gap(sheet, [(1, 1)], (0, point(1, 1)), (1, point(1, 1))), ((), poly(1)))

    def test_values_and_form(self):
        found = set()
        for sheet, numbers, one, other in some_swings():
            gap = swing_gap(sheet, numbers, one, other)
            top, bottom = gap
            self.assertEqual([type(gap), type(top), type(bottom)], [tuple] * 3)
            for s in (0, 1, Fraction(-2, 3), Fraction(7, 5)):
                self.assertEqual(quotient_at(gap, pair(s)), gap2(sheet, swung(numbers, s), one, other))
                self.assertEqual(pair(at(list(map(worth, top)), s) / at(list(map(worth, bottom)), s)),
                                 quotient_at(gap, pair(s)))
            self.assertEqual([part for part in top[1::2] + bottom[1::2] if part != (0, 1)], [])
            self.assertEqual(bottom[-1], (1, 1))
            self.assertFalse(has_common(top, bottom) if top else len(bottom) > 1)
            self.assertEqual(swing_gap(sheet, list(numbers), other, one), gap)
            apart = stays_apart(sheet, numbers, one, other)
            self.assertIs(apart, len(top) < 2 and len(bottom) == 1)
            found.add(apart)
        self.assertEqual(found, {True, False})

    def test_as_many_values_as_prove_it(self):
        sheet = strip([1, 2, 3, 1, 2, 2])
        numbers = poly(1, Fraction(-1, 2), 3, Fraction(2, 5), -1)
        one, other = (0, point(Fraction(1, 3), 0)), (5, point(10, Fraction(1, 7)))
        gap = swing_gap(sheet, numbers, one, other)
        for s in range(40):
            self.assertEqual(quotient_at(gap, (s, 1)), gap2(sheet, swung(numbers, s), one, other))

    def test_lowest_terms_where_turns_are_equal(self):
        sheet = strip([1] * 8)
        for numbers in (poly(*[1] * 7), poly(1, -1, 1, -1, 1, -1, 1), poly(*[2, -2, 0, 2, 1, 1, 1])):
            for number in range(8):
                top, bottom = swing_gap(sheet, numbers, (0, point(0, 0)), (number, point(number, 1)))
                self.assertFalse(has_common(top, bottom))
        top, bottom = swing_gap(sheet, poly(1, -1, 1, -1, 1, -1, 1), (0, point(0, 0)), (2, point(3, 0)))
        self.assertLess(len(bottom), 5)

    def test_the_flat_stand_and_one_plate(self):
        for sheet in (star(), fold_net(), grid(3, 3), single()):
            zeros = [(0, 1)] * len(sheet.creases)
            for one, other in product(spots_of(sheet, 5), repeat=2):
                gap = gap2(sheet, zeros, one, other)
                self.assertEqual(swing_gap(sheet, zeros, one, other), ((gap,) if gap[0] else (), poly(1)))
                self.assertIs(stays_apart(sheet, zeros, one, other), True)
        sheet = fold_net()
        numbers = stands_of(sheet)[1]
        for number, plate in enumerate(sheet.plates):
            one, other = [(number, sheet.corners[corner]) for corner in plate[:2]]
            self.assertIs(stays_apart(sheet, numbers, one, other), True)
            self.assertEqual(swing_gap(sheet, numbers, one, other), ((gap2(sheet, numbers, one, other),), poly(1)))

    def test_stays_apart_in_unlike_plates(self):
        sheet = strip([1, 2, 1])
        numbers = poly(1, -1)
        self.assertIs(stays_apart(sheet, numbers, (0, point(0, 0)), (2, point(4, 0))), False)
        self.assertIs(stays_apart(sheet, numbers, (0, point(1, 0)), (2, point(3, 1))), True)
        self.assertIs(stays_apart(sheet, poly(0, 1), (0, point(0, 0)), (1, point(3, 1))), True)

    def test_forty_digits(self):
        sheet = ladder(40)
        numbers = tuple(pair(Fraction(DIGITS_40 + k, DIGITS_40 - 5 * k - 1)) for k in range(39))
        one, other = (0, sheet.corners[0]), (39, sheet.corners[41])
        gap = swing_gap(sheet, numbers, one, other)
        self.assertEqual([len(gap[0]), len(gap[1])], [79, 79])
        for s in (1, Fraction(-1, 3)):
            self.assertEqual(quotient_at(gap, pair(s)), gap2(sheet, swung(numbers, s), one, other))
        self.assertEqual(meeting_count(sheet, numbers, one, other, (-9, 1), (9, 1)), 0)


class MeetingTest(unittest.TestCase):
    def test_always(self):
        sheet = grid(2, 1)
        for place in (point(1, 0), point(1, 1), point(1, Fraction(2, 7))):
            self.assertIsNone(meeting_count(sheet, [(3, 1)], (0, place), (1, place), (-1, 1), (1, 1)))
            self.assertIsNone(meeting_count(sheet, [(0, 1)], (0, place), (1, place), (5, 1), (6, 1)))
        self.assertIsNone(meeting_count(star(), [(0, 1)] * 4, (0, point(0, 0)), (2, point(0, 0)), (1, 1), (2, 1)))
        self.assertIsNone(meeting_count(sheet, [(3, 1)], (1, point(2, 1)), (1, point(2, 1)), (-1, 1), (1, 1)))

    def test_a_tube(self):
        sheet, numbers = strip([1] * 4), poly(1, 1, 1)
        ends = ((0, point(0, 0)), (3, point(4, 0)))
        for low, high, wanted in (
            (0, 2, 1), (-2, 2, 2), (-2, 0, 1), (0, 1, 1), (1, 2, 0), (-1, 0, 0), (-2, -1, 1), (-1, 1, 1), (-9, -2, 0),
            (2, 9, 0), (Fraction(1, 2), Fraction(3, 2), 1), (Fraction(999, 1000), 1, 1), (1, Fraction(1001, 1000), 0),
            (Fraction(-3, 2), Fraction(-1, 2), 1), (-DIGITS_40, DIGITS_40, 2), (-1, Fraction(1, 2), 0), (-2, 1, 2),
        ):
            self.assertEqual(meeting_count(sheet, numbers, *ends, pair(low), pair(high)), wanted, (low, high))
            self.assertEqual(meeting_count(sheet, numbers, *ends[::-1], pair(low), pair(high)), wanted, (low, high))
        self.assertEqual(meeting_count(sheet, numbers, ends[0], (3, point(4, 1)), (0, 1), (2, 1)), 0)
        self.assertEqual(meeting_count(sheet, poly(5, 5, 5), *ends, (0, 1), (1, 5)), 1)
        self.assertEqual(meeting_count(sheet, poly(5, 5, 5), *ends, (1, 5), (1, 1)), 0)
        self.assertEqual(meeting_count(sheet, poly(-1, -1, -1), *ends, (-1, 1), (1, 1)), 1)
        self.assertEqual(meeting_count(sheet, poly(1, -1, 1), *ends, (-9, 1), (9, 1)), 0)
        self.assertEqual(meeting_count(sheet, poly(0, 0, 0), *ends, (-9, 1), (9, 1)), 0)

    def test_polygons(self):
        # So many squares close to a ring where each turn is a whole part of some whole turns.
        for many in (3, 5, 6, 7, 12):
            sheet = strip([1] * many)
            ends = ((0, point(0, 0)), (many - 1, point(many, 0)))
            roots = [tan(pi * k / many) for k in range(-many, many) if 0 < abs(2 * k) < many]
            for factor in (Fraction(1), Fraction(-DIGITS_40, 3 * DIGITS_40 - 7)):
                numbers = poly(*[factor] * (many - 1))
                for low, high in ((-90, 90), (0, 90), (-90, 0), (-1, Fraction(2, 3)), (Fraction(1, 3), 3), (-7, -1)):
                    ends_of_s = sorted([low * float(factor), high * float(factor)])
                    wanted = len([root for root in roots if in_interval(root, ends_of_s, factor > 0)])
                    found = meeting_count(sheet, numbers, *ends, pair(low), pair(high))
                    self.assertEqual(found, wanted, (many, low, high, factor))

    def test_parted_intervals(self):
        sheet = strip([1] * 12)
        ends = ((0, point(0, 0)), (11, point(12, 0)))
        numbers = poly(*[1] * 11)
        whole = meeting_count(sheet, numbers, *ends, (-5, 1), (5, 1))
        # tan(pi / 4) is 1, tan(pi / 3) and the like are no fractions.
        self.assertEqual(whole, 10)
        for middle in (-2, -1, 0, 1, Fraction(1, 3)):
            parts = meeting_count(sheet, numbers, *ends, (-5, 1), pair(middle)) + meeting_count(
                sheet, numbers, *ends, pair(middle), (5, 1))
            self.assertEqual(parts, whole)

    def test_agrees_with_the_gap(self):
        for sheet, numbers, one, other in list(some_swings())[::9]:
            gap = swing_gap(sheet, numbers, one, other)
            count = meeting_count(sheet, numbers, one, other, (-50, 1), (50, 1))
            self.assertEqual(count is None, gap[0] == ())
            if stays_apart(sheet, numbers, one, other):
                self.assertIn(count, (None, 0))

    def test_order_of_errors(self):
        zeros = [(0, 1)] * 4
        spot = (0, point(0, 0))
        for wrong in [*wrong_things(), [(1, 1)] * 4, [(0, 1)] * 3]:
            for some in (spot, None):
                for call in (swing_gap, stays_apart):
                    with self.assertRaises(NoStand, msg=wrong):
                        call(star(), wrong, some, some)
                with self.assertRaises(NoStand, msg=wrong):
                    meeting_count(star(), wrong, some, some, None, None)
        for wrong in [*wrong_things(), list(spot), (True, point(0, 0)), (4, point(0, 0)), (0, point(2, 0))]:
            for one, other in ((wrong, spot), (spot, wrong)):
                for call in (swing_gap, stays_apart):
                    with self.assertRaises(NoSpot, msg=wrong):
                        call(star(), zeros, one, other)
                for low, high in (((0, 1), (1, 1)), (None, None)):
                    with self.assertRaises(NoSpot, msg=wrong):
                        meeting_count(star(), zeros, one, other, low, high)

    def test_bad_numbers(self):
        zeros = [(0, 1)] * 4
        for spots in (((0, point(0, 0)), (0, point(0, 0))), ((0, point(0, 0)), (0, point(1, 1)))):
            for wrong in wrong_things():
                if wrong == (1, 2) and isinstance(wrong, tuple):
                    continue
                for other in (wrong, None, (1, 1)):
                    self.check_bad("low", zeros, *spots, wrong, other)
                self.check_bad("high", zeros, *spots, (0, 1), wrong)
            for low, high in (((1, 1), (1, 1)), ((1, 1), (0, 1)), ((-1, 2), (-1, 1)), ((1, 2), (1, 3))):
                self.check_bad("high", zeros, *spots, low, high)

    def check_bad(self, word, *arguments):
        with self.assertRaises(BadNumber) as caught:
            meeting_count(star(), *arguments)
        self.assertEqual(caught.exception.word, word)

    def test_by_name_and_unchanged(self):
        sheet, numbers = strip([1] * 4), list(poly(1, 1, 1))
        one, other = (0, point(0, 0)), (3, point(4, 0))
        self.assertEqual(
            meeting_count(high=(2, 1), low=(0, 1), other=other, one=one, numbers=numbers, sheet=sheet), 1)
        self.assertIs(stays_apart(other=other, one=one, numbers=numbers, sheet=sheet), False)
        gap = swing_gap(other=other, one=one, numbers=numbers, sheet=sheet)
        self.assertEqual(unchanged(self, swing_gap, sheet, numbers, one, other), gap)
        self.assertIs(unchanged(self, stays_apart, sheet, numbers, one, other), False)
        self.assertEqual(unchanged(self, meeting_count, sheet, numbers, one, other, (0, 1), (2, 1)), 1)


def in_interval(root, ends, rising):
    """Tell whether a root lies between two ends, of which the greater counts, or the less if s falls."""
    low, high = ends
    tiny = 1e-9
    if rising:
        return low + tiny < root <= high + tiny
    return low - tiny <= root < high - tiny


if __name__ == "__main__":
    unittest.main()
