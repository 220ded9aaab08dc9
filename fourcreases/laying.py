"""How plates lie side by side: who has which side, what goes round a corner, and what is wrong.

Plates are rows of numbers of corners here; a directed side (a, b) belongs to the plate that has
b next behind a, so this plate lies on its left.
"""
from fourcreases.errors import BadSheet, TooMany
from fourcreases.flat import arrow, cross, dot, is_between, is_parted, lines_of


def sides_of(plate):
    """The directed sides of a plate."""
    return [(plate[at - 1], plate[at]) for at in range(len(plate))]


def side_owners(plates):
    """The dict from each directed side to the number of its plate."""
    owners = {}
    for number, plate in enumerate(plates):
        for side in sides_of(plate):
            owners[side] = number
    return owners


def creases_of(owners):
    """The ascending list of the sides that two plates have."""
    return sorted([(a, b) for a, b in owners if a < b and (b, a) in owners])


def rim_sides(owners):
    """The directed sides that one plate alone has."""
    return [(a, b) for a, b in owners if (b, a) not in owners]


def rim_ring(steps):
    """The corners that follow the least one, round to it, by the dict from each to the next."""
    ring = [min(steps)]
    while steps[ring[-1]] != ring[0]:
        ring.append(steps[ring[-1]])
    return ring


def joining(one, other):
    """The side between two corners, the lesser one first."""
    return (min(one, other), max(one, other))


def neighbours_round(plates, corner):
    """The other ends of the creases at an inner corner, counterclockwise, the least crease first."""
    following = {}
    for plate in plates:
        if corner in plate:
            at = plate.index(corner)
            # From the side behind the corner the plate lies counterclockwise.
            following[plate[at + 1 - len(plate)]] = plate[at - 1]
    row = [min(following, key=lambda other: joining(corner, other))]
    while following[row[-1]] != row[0]:
        row.append(following[row[-1]])
    return row


def first_over(spots, plates):
    """The number of the first plate that lies over one ahead of it, None if there is none."""
    shapes = []
    for number, plate in enumerate(plates):
        here = [spots[corner] for corner in plate]
        lines = lines_of(here)
        for there, edges in shapes:
            if not is_parted(edges, here) and not is_parted(lines, there):
                return number
        shapes.append((here, lines))
    return None


def first_loose(many, plates):
    """The first corner of so many that no plate has, None if there is none."""
    used = {}
    for plate in plates:
        for corner in plate:
            used[corner] = True
    for corner in range(many):
        if corner not in used:
            return corner
    return None


def first_touching(spots, owners):
    """The first corner that lies on a side without being an end of it, None if there is none."""
    for corner, spot in enumerate(spots):
        for a, b in owners:
            if is_between(spot, spots[a], spots[b]):
                return corner
    return None


def first_crowded(owners):
    """The first corner at which more than two sides of the rim end, None if there is none."""
    ends = {}
    for a, b in rim_sides(owners):
        ends[a] = ends.get(a, 0) + 1
        ends[b] = ends.get(b, 0) + 1
    for corner in sorted(ends):
        if ends[corner] > 2:
            return corner
    return None


def first_apart(plates, owners):
    """The first plate to which no chain leads from plate 0, None if there is none."""
    reached = {0: True}
    waiting = [0]
    while waiting:
        number = waiting.pop()
        for a, b in sides_of(plates[number]):
            beyond = owners.get((b, a))
            if beyond is not None and beyond not in reached:
                reached[beyond] = True
                waiting.append(beyond)
    for number in range(len(plates)):
        if number not in reached:
            return number
    return None


def first_off_ring(owners):
    """The first corner of the rim that is not on the ring of the first one, None if there is none."""
    steps = dict(rim_sides(owners))
    ring = rim_ring(steps)
    for corner in sorted(steps):
        if corner not in ring:
            return corner
    return None


def inner_corners(many, owners):
    """The ascending list of the corners, of so many, at which no side of the rim ends."""
    steps = dict(rim_sides(owners))
    return [corner for corner in range(many) if corner not in steps]


def makes_half_turns(spots, corner, around):
    """Tell whether opposite angles between four creases at a corner make a half turn together."""
    first, second, third, fourth = [arrow(spots[corner], spots[other]) for other in around]
    # The sine of the sum of both angles: it is above 0 and below a whole turn, as the two others are, too.
    return dot(first, second) * cross(third, fourth) + cross(first, second) * dot(third, fourth) == 0


def check_rim(plates, owners):
    """Raise BadSheet unless the plates hang together and have one ring as their rim."""
    crowded = first_crowded(owners)
    if crowded is not None:
        raise BadSheet("rim", crowded)
    apart = first_apart(plates, owners)
    if apart is not None:
        raise BadSheet("apart", apart)
    off = first_off_ring(owners)
    if off is not None:
        raise BadSheet("hole", off)


def check_inner(spots, plates, owners):
    """Raise BadSheet or TooMany unless the inner corners are as those of a sheet."""
    inner = inner_corners(len(spots), owners)
    rows = {corner: neighbours_round(plates, corner) for corner in inner}
    for corner in inner:
        if len(rows[corner]) != 4:
            raise BadSheet("four", corner)
    for corner in inner:
        if not makes_half_turns(spots, corner, rows[corner]):
            raise BadSheet("half", corner)
    if len(inner) > 9:
        raise TooMany(9)


def check_laying(spots, plates):
    """Raise the first error that applies to how the plates lie."""
    over = first_over(spots, plates)
    if over is not None:
        raise BadSheet("over", over)
    loose = first_loose(len(spots), plates)
    if loose is not None:
        raise BadSheet("loose", loose)
    owners = side_owners(plates)
    touching = first_touching(spots, owners)
    if touching is not None:
        raise BadSheet("touch", touching)
    check_rim(plates, owners)
    check_inner(spots, plates, owners)
