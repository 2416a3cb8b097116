"""The machine that runs cells."""

from nearpool.codes import seen_at
from nearpool.plainrun import carry_out, jumps_now
from nearpool.rows import REGISTERS


def word_at(cells, begin, at):
    """The word of that number in the pool whose first word is at begin, or None where there is none."""
    seen = seen_at(cells, begin - 1)
    if seen is None or seen[0][0] != "pool" or at >= len(seen[0][1]):
        return None
    return seen[0][1][at]


def past_overs(cells, place):
    """Where a run that comes to a place goes on, which is elsewhere if overs lead away from it."""
    seen = seen_at(cells, place)
    while seen is not None and seen[0][0] == "over":
        place = seen[0][1]
        seen = seen_at(cells, place)
    return place


def row_at(cells, place):
    """The pair of a row that can be done at a place, a great one as a set, and the place behind it, or None."""
    seen = seen_at(cells, place)
    if seen is None or seen[0][0] == "pad" or seen[0][0] == "pool":
        return None
    row, behind = seen
    if row[0] != "great":
        return seen
    number = word_at(cells, row[2], row[3])
    return None if number is None else (("set", row[1], number), behind)


def run(cells, most):
    """The tuple (told, end, trace) of a run of at most so many rows."""
    held = [0] * REGISTERS
    told = []
    trace = []
    place = past_overs(cells, 0)
    found = row_at(cells, place)
    while found is not None and len(trace) < most:
        row, behind = found
        trace.append(place)
        if row[0] == "stop":
            return (told, "stopped", trace)
        carry_out(row, held, told)
        # Behind a seen jump's place stands whether it is long: so the place is the last but one.
        place = past_overs(cells, row[-2] if jumps_now(row, held) else behind)
        found = row_at(cells, place)
    if place == len(cells):
        return (told, "ended", trace)
    return (told, "bad" if found is None else "going", trace)
