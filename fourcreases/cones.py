"""Where sums of multiples are all above 0, or why they never are.

Each row tells a sum of multiples of some numbers. There either are integers above 0 at which all
sums are above 0, or some of the numbers and of the sums, with weights from 0 on, always give 0.
"""

ENOUGH = 100


class Search:
    """The search for numbers from 1 on at which all sums are from 1 on.

    What a number or a sum has beyond 1 is its excess; those of the numbers are counted ahead of those
    of the sums. Some excesses are free; each other one is told by a line: what it is, times the
    weight, if all free ones are 0, and behind it what comes of each free one. Where several could be
    exchanged, the first one is taken: so no line-up comes again, and the search has an end.
    """

    def __init__(self, rows):
        many = len(rows[0])
        self.weight = 1
        self.free = list(range(many))
        self.told = list(range(many, many + len(rows)))
        self.lines = [[sum(row) - 1, *row] for row in rows]

    def first_short(self):
        """The place of the line of the first told excess that is below 0, None if there is none."""
        short = [(told, at) for at, told in enumerate(self.told) if self.lines[at][0] < 0]
        return min(short)[1] if short else None

    def first_lifting(self, at):
        """The place of the first free excess that lifts the one of a line, None if there is none."""
        lifting = [(free, place) for place, free in enumerate(self.free) if self.lines[at][place + 1] > 0]
        return min(lifting)[1] if lifting else None

    def exchange(self, at, place):
        """Make the excess of a line free, and a free one that lifts it told."""
        line = self.lines[at]
        lift = line[place + 1]
        lines = []
        for other in self.lines:
            by = other[place + 1]
            changed = [(lift * part - by * own) // self.weight for part, own in zip(other, line)]
            changed[place + 1] = by
            lines.append(changed)
        lines[at] = [-part for part in line]
        lines[at][place + 1] = self.weight
        self.lines = lines
        self.weight = lift
        self.told[at], self.free[place] = self.free[place], self.told[at]

    def found_numbers(self):
        """The numbers at which all free excesses are 0, times the weight."""
        found = [self.weight for _ in self.free]
        for told, line in zip(self.told, self.lines):
            if told < len(found):
                found[told] += line[0]
        return found

    def found_weights(self, at):
        """The weights of numbers and sums that always give 0, by a line that nothing lifts."""
        found = {free: -part for free, part in zip(self.free, self.lines[at][1:]) if part != 0}
        found[self.told[at]] = self.weight
        return found


def searched(rows):
    """The numbers at which all sums are above 0, or None; and weights that always give 0, or None."""
    search = Search(rows)
    at = search.first_short()
    while at is not None:
        place = search.first_lifting(at)
        if place is None:
            return None, search.found_weights(at)
        search.exchange(at, place)
        at = search.first_short()
    return search.found_numbers(), None


def shortened(row):
    """A row of integers divided by a power of 2 and rounded down, if they are long."""
    excess = max([abs(part).bit_length() for part in row]) - ENOUGH
    return [part >> excess for part in row] if excess > 0 else row


def above_all(rows):
    """What `searched` finds, by rows that are rounded down as far as they tell enough.

    Numbers above 0 have less in a row that is rounded down, so those found by such rows are right.
    """
    found, weights = searched([shortened(row) for row in rows])
    if found is None and [row for row in rows if row != shortened(row)]:
        return searched(rows)
    return found, weights
