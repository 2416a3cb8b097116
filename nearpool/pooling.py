"""The plan whose pools are laid as late as they still reach."""

from nearpool.places import WORD_CELLS, first_word, size_of
from nearpool.rows import greats_of, is_great


class Going:
    """The going from gap to gap: the pools laid so far, who reads them, and who waits."""

    def __init__(self, rows, longs, reach):
        self.rows = rows
        self.longs = longs
        self.reach = reach
        self.place = 0
        self.gaps = []
        self.words = []
        self.begin = 0
        self.uses = {}
        self.waiting = []

    def is_due(self, gap):
        """Whether a pool must be laid at the gap, as the next one would be too late."""
        if not self.waiting:
            return False
        if gap == len(self.rows):
            return True
        behind = self.place + size_of(self.rows, self.longs, gap)
        first, place = self.waiting[0]
        return first_word(self.rows, gap + 1, behind) - place > self.reach[1]

    def lay(self, gap):
        """Lays a pool at the gap for all that wait."""
        numbers = []
        for at, place in self.waiting:
            self.uses[at] = len(self.gaps)
            if self.rows[at][2] not in numbers:
                numbers.append(self.rows[at][2])
        self.gaps.append(gap)
        self.words.append(numbers)
        self.begin = first_word(self.rows, gap, self.place)
        self.place = self.begin + WORD_CELLS * len(numbers)
        self.waiting = []

    def finds(self, number):
        """Whether a great row at this place reads the pool laid last, which has its number."""
        if not self.words or number not in self.words[-1]:
            return False
        return self.place - self.begin <= self.reach[0]

    def may_put(self, number):
        """Whether the number may be put behind those of the pool laid last."""
        # Whoever waits is placed already, and would be pushed away from where it was reckoned to be.
        if not self.words or self.waiting or number in self.words[-1]:
            return False
        return self.place + WORD_CELLS - self.begin <= self.reach[0]

    def come(self, at):
        """Lets a great row come: it reads the pool laid last, or waits."""
        number = self.rows[at][2]
        if self.may_put(number):
            self.words[-1].append(number)
            self.place += WORD_CELLS
        if self.finds(number):
            self.uses[at] = len(self.gaps) - 1
        else:
            self.waiting.append((at, self.place))

    def cross(self, gap):
        """Goes over the gap and the row behind it."""
        if self.is_due(gap):
            self.lay(gap)
        if gap < len(self.rows):
            if is_great(self.rows[gap]):
                self.come(gap)
            self.place += size_of(self.rows, self.longs, gap)

    def plan(self):
        """The pair of the pools and of the number of a pool for each great row."""
        pools = [(gap, tuple(numbers)) for gap, numbers in zip(self.gaps, self.words)]
        return (pools, [self.uses[at] for at in greats_of(self.rows)])


def pools_for(rows, longs, reach):
    """The plan to which the going from gap to gap comes."""
    going = Going(rows, longs, reach)
    for gap in range(len(rows) + 1):
        going.cross(gap)
    return going.plan()
