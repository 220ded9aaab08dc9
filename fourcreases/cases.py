"""The linear space of all numbers that keep what is told of some corners.

What is told is a list of pairs (places, four): the numbers at four places among the creases are a
multiple of four. A crease has at most two ends, so it ties at most two of the told ones together,
and the multiples of all that are tied together follow from one of them, or are all 0. So the space
is made of rows no two of which have a number other than 0 at the same crease.
"""
from fourcreases.ratios import NOUGHT, UNIT, divided, times

ZEROS = ((0, 1), (0, 1), (0, 1), (0, 1))


def ends_told(told):
    """The dict from each place that is told to its list of pairs of a told one and its worth there."""
    ends = {}
    for knot, (places, four) in enumerate(told):
        for place, worth in zip(places, four):
            ends.setdefault(place, []).append((knot, worth))
    return ends


def ties_between(told, ends):
    """For each told one its list of pairs (other one, ratio of the multiples), and those that must be 0."""
    ties = [[] for _ in told]
    stopped = {}
    for place in ends:
        if len(ends[place]) == 2:
            (one, worth), (other, weight) = ends[place]
            if worth[0] != 0 and weight[0] != 0:
                ties[one].append((other, divided(worth, weight)))
                ties[other].append((one, divided(weight, worth)))
            elif worth[0] != 0:
                stopped[one] = True
            elif weight[0] != 0:
                stopped[other] = True
    return ties, stopped


def scales_from(start, ties):
    """The multiples of all that are tied to a told one, if its own is 1, and whether they agree."""
    scales = {start: UNIT}
    waiting = [start]
    agree = True
    while waiting:
        knot = waiting.pop()
        for other, ratio in ties[knot]:
            scale = times(scales[knot], ratio)
            if other not in scales:
                scales[other] = scale
                waiting.append(other)
            elif scales[other] != scale:
                agree = False
    return scales, agree


def moving_groups(told, ends):
    """The list of the dicts of multiples, one for each lot of told ones that need not be 0."""
    ties, stopped = ties_between(told, ends)
    groups = []
    seen = {}
    for start in range(len(told)):
        if start not in seen:
            scales, agree = scales_from(start, ties)
            for knot in scales:
                seen[knot] = True
                agree = agree and knot not in stopped
            if agree:
                groups.append(scales)
    return groups


def group_row(told, scales):
    """The dict of the numbers other than 0 that a group makes, the first one being 1."""
    row = {}
    for knot in scales:
        places, four = told[knot]
        for place, worth in zip(places, four):
            if worth[0] != 0:
                row[place] = times(scales[knot], worth)
    if not row:
        return row
    first = row[min(row)]
    return {place: divided(row[place], first) for place in row}


def case_rows(many, told):
    """The reduced rows of the space, for so many creases, each one as the dict of its numbers other than 0."""
    ends = ends_told(told)
    rows = [{place: UNIT} for place in range(many) if place not in ends]
    for scales in moving_groups(told, ends):
        row = group_row(told, scales)
        # Where nothing but zeros is told there is no row.
        if row:
            rows.append(row)
    return sorted(rows, key=min)


def whole_row(many, row):
    """The tuple of so many numbers of such a dict."""
    return tuple([row.get(place, NOUGHT) for place in range(many)])
