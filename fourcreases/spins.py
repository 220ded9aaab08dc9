"""Half angles as vectors (x, y) of two integers, so that angles are put together without any roots.

The angle of a spin is twice the angle of its vector; the vector at this angle has integers, too, and
its length is the integer x x + y y.
"""
from math import gcd

from fourcreases.ratios import lowest


def spin_of(tangent):
    """The spin by an angle whose half has a tangent."""
    top, bottom = tangent
    return (bottom, top)


def back_spin(spin):
    """The spin the other way round."""
    return (spin[0], -spin[1])


def both_spins(one, other):
    """The spin by two spins, one behind the other."""
    x, y = one[0] * other[0] - one[1] * other[1], one[0] * other[1] + one[1] * other[0]
    shared = gcd(x, y)
    return (x // shared, y // shared)


def sine_of(spin):
    """The sine of the angle of a spin."""
    x, y = spin
    return lowest(2 * x * y, x * x + y * y)


def vector_at(spin):
    """The vector at the angle of a spin; its length is `reach_of` it."""
    x, y = spin
    return (x * x - y * y, 2 * x * y)


def reach_of(spin):
    """The length of such a vector."""
    x, y = spin
    return x * x + y * y
