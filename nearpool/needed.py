"""Great rows that show how many pools there must be."""

from nearpool.places import placed
from nearpool.rows import greats_of, is_number_below


def are_apart(places, reach, one, other):
    """Whether the other row is so far behind the one that no pool is reached by both."""
    return places[other] - places[one] > reach[0] + reach[1]


def needed_rows(rows, longs, reach):
    """The rising list of great rows, each the first that is too far behind the one ahead."""
    places, begins, end = placed(rows, longs, [])
    needed = []
    for at in greats_of(rows):
        if not needed or are_apart(places, reach, needed[-1], at):
            needed.append(at)
    return needed


def shows_needed(rows, longs, reach, thing):
    """Whether it is a list of great rows, each too far behind the one ahead; it may be asked of anything."""
    if not isinstance(thing, list):
        return False
    greats = greats_of(rows)
    if not all([is_number_below(at, len(rows)) and at in greats for at in thing]):
        return False
    places, begins, end = placed(rows, longs, [])
    # A row that is farther behind has a greater number, so a list that is so far apart is rising.
    return all([are_apart(places, reach, one, other) for one, other in zip(thing, thing[1:])])
