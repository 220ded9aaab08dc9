"""What the package does, done again with Python's fractions and by the words of the document alone."""
from fractions import Fraction
from functools import lru_cache
from itertools import product
from math import isqrt

from tests.makers import pair, worth


def corner_mn(sheet, corner):
    """m and n, out of e1 + e3 = m (e2 - e4) and e2 + e4 = n (e1 - e3)."""
    return points_mn(sheet.corners[corner], *[sheet.corners[sum(crease) - corner] for crease in sheet.around(corner)])


@lru_cache(None)
def points_mn(corner, *others):
    ways = []
    x, y = map(worth, corner)
    for other in others:
        p, q = map(worth, other)
        square = (p - x) ** 2 + (q - y) ** 2
        size = root(square)
        ways.append(((p - x) / size, (q - y) / size))
    (a, b), (c, d), (e, f), (g, h) = ways
    return ratio((a + e, b + f), (c - g, d - h)), ratio((c + g, d + h), (a - e, b - f))


def root(square):
    return Fraction(whole_root(square.numerator), whole_root(square.denominator))


def whole_root(number):
    low = isqrt(number)
    assert low * low == number
    return low


def ratio(one, other):
    """The number by which other gives one."""
    at = 0 if other[0] else 1
    found = one[at] / other[at]
    assert one == (other[0] * found, other[1] * found)
    return found


def line_rows(sheet, corner, pick):
    """Three rows of a linear system: the numbers at a corner are on one of its lines."""
    m, n = corner_mn(sheet, corner)
    line = (Fraction(1), -m, Fraction(1), m) if pick == 1 else (-n, Fraction(1), n, Fraction(1))
    base = pick - 1
    places = [sheet.creases.index(crease) for crease in sheet.around(corner)]
    rows = []
    for k in range(4):
        if k != base:
            row = [Fraction(0)] * len(sheet.creases)
            row[places[k]] += 1
            row[places[base]] -= line[k]
            rows.append(row)
    return rows


def echelon(rows):
    """The reduced rows of some rows."""
    rows = [list(row) for row in rows]
    done = []
    wide = len(rows[0]) if rows else 0
    for column in range(wide):
        at = next((k for k, row in enumerate(rows) if row[column]), None)
        if at is None:
            continue
        found = rows.pop(at)
        found = [x / found[column] for x in found]
        rows = [[x - row[column] * y for x, y in zip(row, found)] if row[column] else row for row in rows]
        done = [[x - row[column] * y for x, y in zip(row, found)] if row[column] else row for row in done]
        done.append(found)
    return done


def null_rows(rows, wide):
    """Reduced rows of all solutions of a linear system of so many unknowns."""
    found = echelon(rows)
    heads = [next(k for k, x in enumerate(row) if x) for row in found]
    out = []
    for free in range(wide):
        if free not in heads:
            row = [Fraction(0)] * wide
            row[free] = Fraction(1)
            for head, other in zip(heads, found):
                row[head] = -other[free]
            out.append(row)
    return echelon(out)


def told_space(sheet, told):
    """The reduced rows of the numbers that are on the told (corner, line)s, as the package tells rows."""
    rows = [row for corner, pick in told for row in line_rows(sheet, corner, pick)]
    return as_rows(null_rows(rows, len(sheet.creases)))


def as_rows(rows):
    return tuple(tuple(map(pair, row)) for row in rows)


def choice_space(sheet, choice):
    return told_space(sheet, list(zip(sheet.inner, choice)))


def lies_in(row, rows):
    """Tell whether a row is a sum of multiples of reduced rows."""
    left = [worth(x) for x in row]
    for other in rows:
        head = next(k for k, x in enumerate(other) if x[0])
        factor = left[head]
        left = [x - factor * worth(y) for x, y in zip(left, other)]
    return not any(left)


def all_motions(sheet):
    """The motions by their definition."""
    spaces = []
    for choice in product((1, 2), repeat=len(sheet.inner)):
        space = choice_space(sheet, choice)
        if space not in spaces:
            spaces.append(space)
    return [
        one for one in spaces
        if not any(one != other and all(lies_in(row, other) for row in one) for other in spaces)
    ]


def sum_of(rows, factors, wide):
    """A sum of multiples of rows, as numbers of the package."""
    total = [Fraction(0)] * wide
    for row, factor in zip(rows, factors):
        total = [x + worth(y) * factor for x, y in zip(total, row)]
    return tuple(map(pair, total))


def turn_round(start, end, tangent, place):
    """A space point turned about a directed line, by the angle whose half has a tangent (Rodrigues)."""
    axis = [b - a for a, b in zip(start, end)]
    size = root(sum(x * x for x in axis))
    axis = [x / size for x in axis]
    cosine = (1 - tangent ** 2) / (1 + tangent ** 2)
    sine = 2 * tangent / (1 + tangent ** 2)
    v = [b - a for a, b in zip(start, place)]
    along = sum(x * y for x, y in zip(axis, v))
    side = [
        axis[1] * v[2] - axis[2] * v[1], axis[2] * v[0] - axis[0] * v[2], axis[0] * v[1] - axis[1] * v[0],
    ]
    return tuple(
        s + cosine * x + sine * y + (1 - cosine) * along * a for s, x, y, a in zip(start, v, side, axis)
    )


def solid(point):
    return tuple(map(worth, point))


def carried_flat(sheet, placing, number, place):
    """The space point at which a point of the sheet's plane comes to lie with the plane of a plate."""
    plate = sheet.plates[number]
    a, b, c = [tuple(map(worth, sheet.corners[corner])) for corner in plate[:3]]
    p, q, r = [solid(point) for point in placing[number][:3]]
    det = (b[0] - a[0]) * (c[1] - a[1]) - (b[1] - a[1]) * (c[0] - a[0])
    x, y = place[0] - a[0], place[1] - a[1]
    s = (x * (c[1] - a[1]) - y * (c[0] - a[0])) / det
    t = ((b[0] - a[0]) * y - (b[1] - a[1]) * x) / det
    return tuple(i + s * (j - i) + t * (k - i) for i, j, k in zip(p, q, r))


def crease_holds(sheet, placing, crease, number):
    """Tell whether the plate on the left lies as the rule of [6.2] says."""
    left, right = sheet.beside(crease)
    start, end = [
        solid(placing[right][sheet.plates[right].index(corner)]) for corner in crease
    ]
    for corner, point in zip(sheet.plates[left], placing[left]):
        flat = carried_flat(sheet, placing, right, tuple(map(worth, sheet.corners[corner])))
        if turn_round(start, end, worth(number), flat) != solid(point):
            return False
    return True


def square(one, other):
    return sum((worth(a) - worth(b)) ** 2 for a, b in zip(one, other))


def minus(one, other):
    return [a - b for a, b in zip(one, other)]


def inner(one, other):
    return sum(a * b for a, b in zip(one, other))


def outer(one, other):
    return [
        one[1] * other[2] - one[2] * other[1], one[2] * other[0] - one[0] * other[2],
        one[0] * other[1] - one[1] * other[0],
    ]


def side_forms(points):
    """For each side of a plate in space the form (a, b, c, d): a x + b y + c z + d is above 0 on its left."""
    normal = outer(minus(points[1], points[0]), minus(points[2], points[0]))
    forms = []
    for k, start in enumerate(points):
        way = outer(normal, minus(points[(k + 1) % len(points)], start))
        forms.append([*way, -inner(way, start)])
    return forms


def plane_form(points):
    normal = outer(minus(points[1], points[0]), minus(points[2], points[0]))
    return [*normal, -inner(normal, points[0])]


def in_plane(form, start, one, other):
    """A form of space points as one (a, b, c) of the points start + s one + t other: a s + b t + c."""
    return [inner(form[:3], one), inner(form[:3], other), inner(form[:3], start) + form[3]]


def some_above(forms):
    """Tell whether some (s, t) makes all forms (a, b, c) above 0: t is done away with, then s."""
    up = [form for form in forms if form[1] > 0]
    down = [form for form in forms if form[1] < 0]
    rest = [(a, c) for a, b, c in forms if b == 0]
    rest += [(a * -e + d * b, c * -e + f * b) for a, b, c in up for d, e, f in down]
    low = [-c / a for a, c in rest if a > 0]
    high = [-c / a for a, c in rest if a < 0]
    return all(c > 0 for a, c in rest if a == 0) and (not low or not high or max(low) < min(high))


def have_inner_point(one, other):
    """Tell whether two plates in space have a point within both, by inequalities in the plane of one."""
    one, other = [solid(place) for place in one], [solid(place) for place in other]
    start, u, v = one[0], minus(one[1], one[0]), minus(one[2], one[0])
    forms = [in_plane(form, start, u, v) for form in side_forms(one) + side_forms(other)]
    a, b, c = in_plane(plane_form(other), start, u, v)
    if a == b == 0:
        return c == 0 and some_above(forms)
    if a == 0:
        return some_above([(p, Fraction(0), r - q * c / b) for p, q, r in forms])
    return some_above([(Fraction(0), q - p * b / a, r - p * c / a) for p, q, r in forms])


def is_within(points, place):
    """Tell whether a space point lies within a plate in space."""
    points, place = [solid(point) for point in points], [*solid(place), 1]
    return inner(plane_form(points), place) == 0 and all(inner(form, place) > 0 for form in side_forms(points))


def whole_rows(rows):
    """Rows of the package as rows of Python's fractions."""
    return [[worth(x) for x in row] for row in rows]


def mixed(rows, factors, wide):
    """The sum of multiples of rows of Python's fractions."""
    return [sum((f * row[k] for f, row in zip(factors, rows)), Fraction(0)) for k in range(wide)]


def solutions(rows, wanted, wide):
    """Some solution of a linear system, row by row, and rows of all with 0 as wanted; None if there is none."""
    if not rows:
        return [Fraction(0)] * wide, null_rows([], wide)
    found = echelon([[*row, want] for row, want in zip(rows, wanted)])
    some = [Fraction(0)] * wide
    for row in found:
        head = next(k for k, x in enumerate(row) if x)
        if head == wide:
            return None
        some[head] = row[wide]
    return some, null_rows(rows, wide)


def fits_in(motion, told, wide):
    """The stands of a motion that have told numbers at some places: one of them, and rows that may be added."""
    rows = whole_rows(motion)
    system = [[row[place] for row in rows] for place in told]
    found = solutions(system, [worth(told[place]) for place in told], len(rows))
    if found is None:
        return None
    some, free = found
    return mixed(rows, some, wide), [mixed(rows, factors, wide) for factors in free]


def twins(motion, other, places, wide):
    """Rows of all pairs of stands of two motions with the same numbers at some places."""
    one, two = whole_rows(motion), whole_rows(other)
    system = [[row[place] for row in one] + [-row[place] for row in two] for place in places]
    return [
        (mixed(one, factors[:len(one)], wide), mixed(two, factors[len(one):], wide))
        for factors in null_rows(system, len(one) + len(two))
    ]
