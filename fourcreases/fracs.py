"""Fractions: pairs of a top and a bottom in lowest terms."""
from fourcreases.errors import NoFraction
from fourcreases.kinds import is_fraction, is_integer
from fourcreases.ratios import divided, lowest, minus, plus, times, whole_root


def check_two(one, other):
    """Raise NoFraction unless both are fractions."""
    if not is_fraction(one) or not is_fraction(other):
        raise NoFraction()


def frac_of(top, bottom):
    """The fraction of two integers."""
    if not is_integer(top) or not is_integer(bottom) or bottom == 0:
        raise NoFraction()
    return lowest(top, bottom)


def frac_add(one, other):
    """The sum of two fractions."""
    check_two(one, other)
    return plus(one, other)


def frac_sub(one, other):
    """The difference of two fractions."""
    check_two(one, other)
    return minus(one, other)


def frac_mul(one, other):
    """The product of two fractions."""
    check_two(one, other)
    return times(one, other)


def frac_div(one, other):
    """The quotient of two fractions."""
    check_two(one, other)
    if other[0] == 0:
        raise NoFraction()
    return divided(one, other)


def frac_sign(one, other):
    """-1, 0 or 1, as one is below other, equal to it or above it."""
    check_two(one, other)
    gap = one[0] * other[1] - other[0] * one[1]
    if gap == 0:
        return 0
    return 1 if gap > 0 else -1


def frac_root(one):
    """The fraction from 0 on whose square is one, None if there is none."""
    if not is_fraction(one):
        raise NoFraction()
    # In lowest terms a fraction is a square only if top and bottom both are.
    top = whole_root(one[0])
    bottom = whole_root(one[1])
    if top is None or bottom is None:
        return None
    return (top, bottom)
