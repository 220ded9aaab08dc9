"""What kind of value something is."""
from math import gcd


def is_integer(thing):
    """Tell whether something is an integer; a flag is none."""
    return isinstance(thing, int) and not isinstance(thing, bool)


def is_row(thing):
    """Tell whether something is a list or a tuple."""
    return isinstance(thing, (list, tuple))


def is_tuple_of(thing, many):
    """Tell whether something is a tuple with so many items."""
    return isinstance(thing, tuple) and len(thing) == many


def is_fraction(thing):
    """Tell whether something is a pair of integers in lowest terms, the bottom at least 1."""
    if not is_tuple_of(thing, 2):
        return False
    top, bottom = thing
    if not is_integer(top) or not is_integer(bottom) or bottom < 1:
        return False
    return gcd(top, bottom) == 1


def are_fractions(things):
    """Tell whether all items of a row are fractions."""
    for thing in things:
        if not is_fraction(thing):
            return False
    return True


def is_fraction_row(thing, many):
    """Tell whether something is a row of so many fractions."""
    return is_row(thing) and len(thing) == many and are_fractions(thing)


def is_point(thing):
    """Tell whether something is a point of the plane."""
    return is_tuple_of(thing, 2) and are_fractions(thing)


def is_space_point(thing):
    """Tell whether something is a point of space."""
    return is_tuple_of(thing, 3) and are_fractions(thing)


def is_pick_row(thing, many):
    """Tell whether something is a row of so many integers 1 and 2."""
    if not is_row(thing) or len(thing) != many:
        return False
    for pick in thing:
        if not is_integer(pick) or pick not in (1, 2):
            return False
    return True
