"""Polynomials: tuples of fractions, and lists of integers to reckon with.

What stands before 1, comes first; the last item is not 0, so 0 has no items.
"""
from math import gcd, lcm

from fourcreases.kinds import are_fractions
from fourcreases.ratios import lowest


def is_polynomial(thing):
    """Tell whether something is a tuple of fractions, the last one not 0."""
    if not isinstance(thing, tuple) or not are_fractions(thing):
        return False
    return len(thing) == 0 or thing[-1][0] != 0


def whole_poly(poly):
    """A tuple of fractions as a list of integers, and the weight by which all of them were multiplied."""
    weight = 1
    for _, bottom in poly:
        weight = lcm(weight, bottom)
    return [top * (weight // bottom) for top, bottom in poly], weight


def trimmed(poly):
    """A list of integers without the zeros at its end."""
    many = len(poly)
    while many > 0 and poly[many - 1] == 0:
        many -= 1
    return poly[:many]


def slim_poly(poly):
    """A polynomial divided by what divides all its integers."""
    shared = 0
    for part in poly:
        shared = gcd(shared, part)
    if shared < 2:
        return poly
    return [part // shared for part in poly]


def scaled(poly, factor):
    """A polynomial times an integer."""
    return trimmed([part * factor for part in poly])


def sum_of_products(pairs):
    """The sum of the products of pairs of polynomials."""
    total = [0] * max([len(one) + len(other) for one, other in pairs])
    for one, other in pairs:
        for at, part in enumerate(one):
            if part != 0:
                for by, worth in enumerate(other):
                    total[at + by] += part * worth
    return trimmed(total)


def slope(poly):
    """The derivative of a polynomial."""
    return [at * part for at, part in enumerate(poly)][1:]


def left_over(one, other):
    """What is left of a polynomial behind division by another one, times some integer above 0."""
    rest = one
    factor, sign = (other[-1], 1) if other[-1] > 0 else (-other[-1], -1)
    while len(rest) >= len(other):
        gap = len(rest) - len(other)
        weight = sign * rest[-1]
        low = [factor * part for part in rest[:gap]]
        high = [factor * part - weight * worth for part, worth in zip(rest[gap:-1], other)]
        rest = trimmed(low + high)
    return rest


def exact_quotient(one, other):
    """The polynomial of integers that gives one if multiplied by the other, None if there is none."""
    rest = list(one)
    found = []
    while len(rest) >= len(other):
        factor, left = divmod(rest[-1], other[-1])
        if left != 0:
            return None
        found.append(factor)
        gap = len(rest) - len(other)
        rest = rest[:gap] + [part - factor * worth for part, worth in zip(rest[gap:-1], other)]
    return found[::-1] if not trimmed(rest) else None


def whole_value(poly, s):
    """The value of a polynomial at a fraction, times the bottom as often as the polynomial has items behind 1."""
    top, bottom = s
    value, power = 0, 1
    for part in reversed(poly):
        value = value * top + part * power
        power = power * bottom
    return value


def value_of(poly, weight, s):
    """The value at a fraction of a polynomial that was multiplied by a weight."""
    if not poly:
        return (0, 1)
    power = 1
    for _ in range(len(poly) - 1):
        power = power * s[1]
    return lowest(whole_value(poly, s), weight * power)
