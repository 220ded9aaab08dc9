"""Two stands that look alike at the creases of a lot.

If there are two such at all, there are two that are each sums of rows of one motion of one part:
either a row that is 0 at all the creases against the flat stand, or sums of rows of two motions
whose numbers at the creases of the lot tie them together. The rows that both motions have are the
only ones in both, so sums of other ones are unlike.
"""
from fourcreases.cases import ends_told, moving_groups
from fourcreases.parts import rows_of, scaled_row
from fourcreases.ratios import NOUGHT, divided


def hidden_row(parts, lot):
    """A row of some motion that is 0 at all places of a lot, None if there is none."""
    for row in rows_of(parts):
        if not [place for place in row if place in lot]:
            return row
    return None


def looks_of(row, lot):
    """What a row shows at the places of a lot, but for a factor: it shows something."""
    shown = sorted([place for place in row if place in lot])
    return [(place, divided(row[place], row[shown[0]])) for place in shown]


def told_by_rows(rows, places):
    """What the multiples of rows tell at some places, in the form of `case_rows`, and behind it zeros at all others."""
    told = []
    bare = list(places)
    for row in rows:
        own = [place for place in places if place in row]
        told.append((own, [row[place] for place in own]))
        bare = [place for place in bare if place not in row]
    return [*told, (bare, [NOUGHT] * len(bare))]


def sum_of_scaled(rows, scales, start):
    """The sum of multiples of rows, as a dict: the factors are what scales has from start on, 0 where it has none."""
    total = {}
    for at, row in enumerate(rows):
        if start + at in scales:
            total.update(scaled_row(row, scales[start + at]))
    return total


def alike_sums(one, other, lot):
    """Sums of multiples of rows, and of other rows, with the same numbers at a lot, None if there are none but 0."""
    shown = {place: True for row in one + other for place in row}
    places = [place for place in lot if place in shown]
    told = told_by_rows(one, places) + told_by_rows(other, places)
    for scales in moving_groups(told, ends_told(told)):
        total = sum_of_scaled(one, scales, 0)
        if total:
            return total, sum_of_scaled(other, scales, len(one) + 1)
    return None


def numbered_motions(part):
    """The list of the unlike rows of a part, and its motions as lists of their numbers."""
    rows = []
    motions = []
    for motion in part.motions:
        numbers = []
        for row in motion:
            if row not in rows:
                rows.append(row)
            numbers.append(rows.index(row))
        motions.append(numbers)
    return rows, motions


def alike_in_part(part, lot):
    """Two unlike sums of rows of a part with the same numbers at a lot, at which each row shows something."""
    rows, motions = numbered_motions(part)
    looks = [looks_of(row, lot) for row in rows]
    for at, motion in enumerate(motions):
        for ahead in motions[:at]:
            one = [number for number in motion if number not in ahead]
            other = [number for number in ahead if number not in motion]
            # Mostly there is one row on each side, and they look unlike.
            if len(one) != 1 or len(other) != 1 or looks[one[0]] == looks[other[0]]:
                found = alike_sums([rows[number] for number in one], [rows[number] for number in other], lot)
                if found is not None:
                    return found
    return None


def blind_rows(parts, lot):
    """Two unlike stands, as dicts, with the same numbers at the places of a lot, None if there are none."""
    hidden = hidden_row(parts, lot)
    if hidden is not None:
        return {}, hidden
    for part in parts:
        found = alike_in_part(part, lot)
        if found is not None:
            return found
    return None
