"""Integers and fractions as words of digits."""
from math import gcd

from fourcreases.ratios import NOUGHT

DIGITS = "0123456789"
# So many digits are written and read at once, as Python refuses to do so with very many; 10 ** 60 goes with it.
PIECE = 60


def word_of(number):
    """An integer in decimal digits."""
    if number < 0:
        return "-" + word_of(-number)
    pieces = []
    rest = number
    while rest >= 10 ** 60:
        rest, piece = divmod(rest, 10 ** 60)
        pieces.append(str(piece).zfill(PIECE))
    pieces.append(str(rest))
    return "".join(pieces[::-1])


def is_whole_word(word):
    """Tell whether a string is digits without needless zeros."""
    for sign in word:
        if sign not in DIGITS:
            return False
    return word == "0" or not (word == "" or word.startswith("0"))


def number_in(word):
    """The integer that a word of digits tells."""
    number = 0
    start = len(word) % PIECE
    if start > 0:
        number = int(word[:start])
    for at in range(start, len(word), PIECE):
        number = number * 10 ** 60 + int(word[at:at + PIECE])
    return number


def fraction_word(one):
    """A fraction as TOP/BOTTOM, or as TOP if the bottom is 1."""
    top, bottom = one
    return word_of(top) if bottom == 1 else word_of(top) + "/" + word_of(bottom)


def fraction_in(word):
    """The fraction that is written as a string, None if there is none."""
    if word == "0":
        return NOUGHT
    negative = word.startswith("-")
    top, slash, bottom = (word[1:] if negative else word).partition("/")
    if not is_whole_word(top) or top == "0":
        return None
    number = -number_in(top) if negative else number_in(top)
    if slash == "":
        return (number, 1)
    if not is_whole_word(bottom) or bottom in ("0", "1"):
        return None
    below = number_in(bottom)
    return (number, below) if gcd(number, below) == 1 else None
