"""Fractions, sheets, numbers and trees as texts."""
from fourcreases.errors import BadText, NoFraction, NoNumbers, NoTree
from fourcreases.kinds import are_fractions, is_fraction, is_integer, is_row, is_tuple_of
from fourcreases.sheets import Sheet
from fourcreases.trees import DEEPEST
from fourcreases.words import DIGITS, fraction_in, fraction_word, is_whole_word, number_in, word_of

LONGEST = 40


def frac_text(one):
    """The text of a fraction."""
    if not is_fraction(one):
        raise NoFraction()
    return fraction_word(one)


def read_frac(text):
    """The fraction that has a text."""
    one = fraction_in(text) if isinstance(text, str) else None
    if one is None:
        raise BadText(1)
    return one


def sheet_text(sheet):
    """The text of a sheet: a line for each corner and for each plate."""
    lines = [" ".join(["corner", fraction_word(x), fraction_word(y)]) for x, y in sheet.corners]
    lines.extend([" ".join(["plate"] + [word_of(corner) for corner in plate]) for plate in sheet.plates])
    return "".join([line + "\n" for line in lines])


def corner_in(words):
    """The point that the words of a line tell, None if it is no corner's line."""
    if len(words) != 3 or words[0] != "corner":
        return None
    x, y = fraction_in(words[1]), fraction_in(words[2])
    return None if x is None or y is None else (x, y)


def plate_in(words):
    """The row of numbers that the words of a line tell, None if it is no plate's line."""
    if len(words) < 2 or words[0] != "plate":
        return None
    for word in words[1:]:
        if not is_whole_word(word):
            return None
    return [number_in(word) for word in words[1:]]


def read_sheet(text):
    """The sheet that has a text."""
    if not isinstance(text, str) or (text != "" and not text.endswith("\n")):
        raise BadText(0)
    corners = []
    plates = []
    for at, line in enumerate(text.split("\n")[:-1]):
        words = line.split(" ")
        point, plate = corner_in(words), plate_in(words)
        if plate is not None:
            plates.append(plate)
        elif point is not None and not plates:
            corners.append(point)
        else:
            raise BadText(at + 1)
    return Sheet(corners, plates)


def numbers_text(numbers):
    """The text of a row of fractions."""
    if not is_row(numbers) or not are_fractions(numbers):
        raise NoNumbers()
    return " ".join([fraction_word(one) for one in numbers])


def read_numbers(text):
    """The row of fractions that has a text."""
    if not isinstance(text, str):
        raise BadText(0)
    if text == "":
        return ()
    numbers = []
    for at, word in enumerate(text.split(" ")):
        one = fraction_in(word)
        if one is None:
            raise BadText(at + 1)
        numbers.append(one)
    return tuple(numbers)


def is_number(thing):
    """Tell whether something is an integer from 0 on."""
    return is_integer(thing) and thing >= 0


def is_tree(thing, deepest):
    """Tell whether something is a tree that is not nested deeper than told, whatever corners it splits."""
    if is_tuple_of(thing, 1):
        return thing[0] == "leaf"
    if is_tuple_of(thing, 2):
        return thing[0] == "motion" and is_number(thing[1])
    if not is_tuple_of(thing, 4) or thing[0] != "split" or not is_number(thing[1]) or deepest < 2:
        return False
    return is_tree(thing[2], deepest - 1) and is_tree(thing[3], deepest - 1)


def written_tree(tree):
    """The text of what is a tree."""
    if len(tree) == 1:
        return "."
    if len(tree) == 2:
        return word_of(tree[1])
    return "(" + " ".join([word_of(tree[1]), written_tree(tree[2]), written_tree(tree[3])]) + ")"


def tree_text(tree):
    """The text of a tree."""
    if not is_tree(tree, DEEPEST):
        raise NoTree()
    return written_tree(tree)


def sign_at(text, at):
    """The sign at a place of a text, BadText if the text ends ahead of it."""
    if at >= len(text):
        raise BadText(len(text) + 1)
    return text[at]


def behind_sign(text, at, wanted):
    """The place behind a sign that must be the wanted one."""
    if sign_at(text, at) != wanted:
        raise BadText(at + 1)
    return at + 1


def read_number(text, at):
    """The integer that begins at a place of a text, and the place behind it."""
    if sign_at(text, at) not in DIGITS:
        raise BadText(at + 1)
    end = at + 1
    # Behind a zero, or behind the most digits, a further digit is no part of the number, and so wrong.
    while text[at] != "0" and end < len(text) and text[end] in DIGITS and end - at < LONGEST:
        end += 1
    return number_in(text[at:end]), end


def tree_from(text, at, deepest):
    """The tree, not deeper than told, that begins at a place of a text, and the place behind it."""
    sign = sign_at(text, at)
    if sign == ".":
        return ("leaf",), at + 1
    if sign != "(" or deepest < 2:
        number, end = read_number(text, at)
        return ("motion", number), end
    corner, end = read_number(text, at + 1)
    first, end = tree_from(text, behind_sign(text, end, " "), deepest - 1)
    second, end = tree_from(text, behind_sign(text, end, " "), deepest - 1)
    return ("split", corner, first, second), behind_sign(text, end, ")")


def read_tree(text):
    """The tree that has a text."""
    if not isinstance(text, str):
        raise BadText(0)
    tree, end = tree_from(text, 0, DEEPEST)
    if end < len(text):
        raise BadText(end + 1)
    return tree
