"""Rings of tied corners round which the ratios of their multiples do not agree."""
from fourcreases.ratios import UNIT, times


def way_back(ahead, knot):
    """The row from a knot to the start, by the dict from each one to the one ahead of it."""
    row = [knot]
    while ahead[row[-1]] is not None:
        row.append(ahead[row[-1]])
    return row


def ring_through(ahead, one, other):
    """The ring of two knots that are tied and their ways back, as far as these are not one."""
    here, there = way_back(ahead, one), way_back(ahead, other)
    shared = [knot for knot in here if knot in there][0]
    return here[:here.index(shared) + 1] + there[:there.index(shared)][::-1]


def ring_from(start, ties, seen):
    """A ring that does not agree among all that is tied to a knot, None if there is none; all of it is seen then."""
    scales = {start: UNIT}
    ahead = {start: None}
    waiting = [start]
    while waiting:
        knot = waiting.pop()
        seen[knot] = True
        for other, ratio in ties[knot]:
            scale = times(scales[knot], ratio)
            if other not in scales:
                scales[other] = scale
                ahead[other] = knot
                waiting.append(other)
            elif scales[other] != scale:
                return ring_through(ahead, knot, other)
    return None


def open_ring(ties):
    """A ring of knots that does not agree, None if all agree; the ties are those of `ties_between`."""
    seen = {}
    for start in range(len(ties)):
        if start not in seen:
            ring = ring_from(start, ties, seen)
            if ring is not None:
                return ring
    return None
