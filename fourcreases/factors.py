"""What divides several polynomials of integers.

Modulo a prime the greatest common divisor is soon found; it has at least as many items as the true
one, and where a multiple of it divides all the polynomials, it is the true one. So a greater prime
is taken as long as this fails, and the long way is gone only behind the last one.
"""
from math import gcd

from fourcreases.polys import exact_quotient, left_over, slim_poly, trimmed

# For these powers of 2 the number less by 1 is a prime.
POWERS = (521, 2203, 9941, 44497)


def inverse(number, prime):
    """The integer that gives 1 if multiplied by a number that the prime does not divide, modulo the prime."""
    one, other = prime, number
    here, there = 0, 1
    while other != 0:
        whole = one // other
        one, other = other, one - whole * other
        here, there = there, here - whole * there
    return here


def left_modulo(one, other, prime):
    """What is left of a polynomial behind division by another one, times some integer, modulo a prime."""
    rest = one
    factor = other[-1]
    while len(rest) >= len(other):
        gap = len(rest) - len(other)
        weight = rest[-1]
        low = [factor * part % prime for part in rest[:gap]]
        high = [(factor * part - weight * worth) % prime for part, worth in zip(rest[gap:-1], other)]
        rest = trimmed(low + high)
    return rest


def factor_modulo(polys, prime):
    """The greatest common divisor of polynomials modulo a prime, the last item being 1."""
    found = []
    for poly in polys:
        one, other = found, trimmed([part % prime for part in poly])
        while other:
            one, other = other, left_modulo(one, other, prime)
        found = one
    unit = inverse(found[-1], prime)
    return [part * unit % prime for part in found]


def centred(number, prime):
    """The integer nearest to 0 that is a number modulo a prime."""
    rest = number % prime
    return rest - prime if 2 * rest > prime else rest


def guessed_factor(polys, head, prime):
    """What divides all the polynomials if the prime is great enough for it, its last item dividing the head."""
    found = factor_modulo(polys, prime)
    return slim_poly([centred(head * part, prime) for part in found])


def long_factor(polys):
    """The greatest common divisor of polynomials by division alone."""
    found = []
    for poly in polys:
        one, other = found, poly
        while other:
            one, other = other, slim_poly(left_over(one, other))
        found = slim_poly(one)
    return found


def divides_all(factor, polys):
    """Tell whether a polynomial divides all of some other ones."""
    for poly in polys:
        if exact_quotient(poly, factor) is None:
            return False
    return True


def shared_factor(polys):
    """The greatest common divisor of polynomials of which one at least is not 0, without a common divisor itself."""
    rows = [slim_poly(poly) for poly in polys if poly]
    head = 0
    for row in rows:
        head = gcd(head, row[-1])
    for power in POWERS:
        prime = (1 << power) - 1
        # The first prime mostly shows that nothing divides all; a guess needs one that is above the head.
        if head % prime != 0 and (power == POWERS[0] or head < prime):
            found = guessed_factor(rows, head, prime)
            if len(found) == 1 or divides_all(found, rows):
                return found
    return long_factor(rows)
