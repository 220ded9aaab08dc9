"""Swings of stands: distances of spots as all numbers are multiplied by s."""
from fourcreases.errors import BadNumber, NoFraction, NoPolynomial
from fourcreases.factors import shared_factor
from fourcreases.fracs import frac_sign
from fourcreases.kinds import is_fraction, is_tuple_of
from fourcreases.placings import check_spots
from fourcreases.polys import exact_quotient, is_polynomial, sum_of_products, value_of, whole_poly
from fourcreases.ratios import NOUGHT, UNIT, divided, lowest
from fourcreases.roots import count_by_squares
from fourcreases.swinging import swing_of


def is_quotient(thing):
    """Tell whether something is a pair of polynomials without a common divisor, the second one ending in 1."""
    if not is_tuple_of(thing, 2):
        return False
    top, bottom = thing
    if not is_polynomial(top) or not is_polynomial(bottom) or len(bottom) == 0 or bottom[-1] != UNIT:
        return False
    return len(shared_factor([whole_poly(top)[0], whole_poly(bottom)[0]])) == 1


def in_squares(poly, weight):
    """The tuple of fractions of a polynomial in the square of s, divided by a weight."""
    parts = []
    for part in poly:
        parts.extend([lowest(part, weight), NOUGHT])
    return tuple(parts[:-1])


def swing_gap(sheet, numbers, one, other):
    """The quotient whose value at s is the square of the distance of two spots if all numbers are s times as great."""
    check_spots(sheet, numbers, [one, other])
    (x, y, z), turns, scale = swing_of(sheet, numbers, one, other)
    top = sum_of_products([(x, x), (y, y), ([0, *z], z)])
    bottom = [1]
    # Both factors of each turn are below, and neither can be split; so what cannot be taken away stays.
    for a, b in turns + turns:
        factor = [b * b, a * a]
        left = exact_quotient(top, factor)
        if left is None:
            bottom = sum_of_products([(bottom, factor)])
        else:
            top = left
    return (in_squares(top, scale * scale * bottom[-1]), in_squares(bottom, bottom[-1]))


def stays_apart(sheet, numbers, one, other):
    """Tell whether the distance of two spots is the same for all s."""
    top, bottom = swing_gap(sheet, numbers, one, other)
    return len(top) <= 1 and len(bottom) == 1


def meeting_count(sheet, numbers, one, other, low, high):
    """The number of the real s above low and at most high for which two spots meet, None if they always do."""
    check_spots(sheet, numbers, [one, other])
    if not is_fraction(low):
        raise BadNumber("low")
    if not is_fraction(high) or frac_sign(high, low) != 1:
        raise BadNumber("high")
    x, y, z = swing_of(sheet, numbers, one, other)[0]
    if not x and not y and not z:
        return None
    # For s = 0 two spots meet only if they are one point of the sheet; then they always do.
    return count_by_squares(shared_factor([x, y, z]), low, high)


def poly_at(poly, s):
    """The value of a polynomial at a fraction."""
    if not is_polynomial(poly):
        raise NoPolynomial()
    if not is_fraction(s):
        raise NoFraction()
    whole, weight = whole_poly(poly)
    return value_of(whole, weight, s)


def quotient_at(quotient, s):
    """The value of a quotient of two polynomials at a fraction."""
    if not is_quotient(quotient):
        raise NoPolynomial()
    top, bottom = quotient
    below = poly_at(bottom, s)
    if below[0] == 0:
        raise NoFraction()
    return divided(poly_at(top, s), below)
