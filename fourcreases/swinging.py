"""Swings: how a spot moves, seen from another plate, if all numbers of a stand are multiplied by s.

A crease with the number a / b turns by the tangent s a / b. Seen from a plate, all turns the other
way are the mirror image in its plane: so the two coordinates in the plane have even powers of s
alone, and the height has odd ones. Therefore x stands for the square of s, and the vector of three
polynomials (one, other, third) in x for the place (one, other, s third), times b b + a a x for each
crease on the way and times integers.
"""
from math import gcd

from fourcreases.flat import size_of
from fourcreases.placings import hinges_of
from fourcreases.polys import scaled, sum_of_products
from fourcreases.showing import gap, whole_points


def hinges_between(sheet, one, other):
    """The list of the pairs (place of a crease, sign of the turn) on the way from one plate to another one."""
    rows = hinges_of(sheet)
    ahead = {one: None}
    waiting = [one]
    at = 0
    while other not in ahead:
        number = waiting[at]
        for beyond, place, sign in rows[number]:
            if beyond not in ahead:
                ahead[beyond] = (number, place, sign)
                waiting.append(beyond)
        at += 1
    way = []
    plate = other
    while plate != one:
        plate, place, sign = ahead[plate]
        way.append((place, sign))
    return way[::-1]


def turned_vector(vector, lead, size, number):
    """A vector behind a turn about a directed line of a size, times the square of it and b b + a a x."""
    x, y, z = vector
    c, d = lead
    a, b = number
    stay = [b * b * size * size, -a * a * size * size]
    lift = 2 * a * b * size
    bend = [0, 2 * a * a]
    along = sum_of_products([([c], x), ([d], y)])
    return (
        sum_of_products([(stay, x), ([0, lift * d], z), (scaled(bend, c), along)]),
        sum_of_products([(stay, y), ([0, -lift * c], z), (scaled(bend, d), along)]),
        sum_of_products([(stay, z), ([-lift * d], x), ([lift * c], y)]),
    )


def shifted(vector, factor, place, weight):
    """A vector moved by a multiple of a point of the plane, both times a weight that is a polynomial."""
    x, y, z = vector
    return (
        sum_of_products([([1], x), ([factor * place[0]], weight)]),
        sum_of_products([([1], y), ([factor * place[1]], weight)]),
        z,
    )


def slim_lead(start, end):
    """The vector from one point of integers to another one, divided by what divides it, and its length."""
    x, y = gap(start, end)
    shared = gcd(x, y)
    lead = (x // shared, y // shared)
    return lead, size_of(lead)


def swing_of(sheet, numbers, one, other):
    """The vector from one spot to another one, seen from the plate of the first one, as three polynomials.

    With it come the numbers of the creases on the way that are not 0, and the integer by which the
    vector was multiplied, too.
    """
    way = [(place, sign) for place, sign in hinges_between(sheet, one[0], other[0]) if numbers[place][0] != 0]
    points = [one[1], other[1]]
    for place, _ in way:
        points.extend([sheet.corners[corner] for corner in sheet.creases[place]])
    whole, scale = whole_points(points)
    weight = [1]
    vector = shifted(([], [], []), 1, whole[1], weight)
    for at in range(len(way) - 1, -1, -1):
        place, sign = way[at]
        start, end = whole[2 * at + 2:2 * at + 4]
        lead, size = slim_lead(start, end)
        top, bottom = numbers[place]
        vector = turned_vector(shifted(vector, -1, start, weight), lead, size, (sign * top, bottom))
        weight = sum_of_products([([size * size * bottom * bottom, size * size * top * top], weight)])
        vector = shifted(vector, 1, start, weight)
        scale = scale * size * size
    return shifted(vector, -1, whole[0], weight), [numbers[place] for place, _ in way], scale
