"""Places of rows and pools, and plans of pools."""

from nearpool.codes import MOST_WORDS
from nearpool.rows import GREATEST_SMALL, NUMBERS, falls, greats_of, is_great, is_number_below

OVER_CELLS = 2
WORD_CELLS = 2


def size_of(rows, longs, at):
    """How many cells the row of that number has."""
    return 2 if is_great(rows[at]) or at in longs else 1


def has_over(rows, gap):
    """Whether a run may come to the gap from ahead, so that a pool there needs an over."""
    return gap == 0 or falls(rows[gap - 1])


def first_word(rows, gap, place):
    """Where the first word of a pool at the gap stands, if all ahead of it ends at that place."""
    if has_over(rows, gap):
        place += OVER_CELLS
    # A pad has one cell, the head one more: so the first word is at an even place.
    return place + 2 - place % 2


def placed(rows, longs, pools):
    """The tuple (places, begins, end): of the rows, of the pools' first words, and behind all."""
    words = {gap: len(numbers) for gap, numbers in pools}
    places = []
    begins = []
    place = 0
    for gap in range(len(rows) + 1):
        if gap in words:
            begins.append(first_word(rows, gap, place))
            place = begins[-1] + WORD_CELLS * words[gap]
        if gap < len(rows):
            places.append(place)
            place += size_of(rows, longs, gap)
    return (places, begins, place)


def is_pair(thing):
    """Whether it is a tuple of two."""
    return isinstance(thing, tuple) and len(thing) == 2


def is_pooled(thing):
    """Whether it is a number that may stand in a pool."""
    return is_number_below(thing, NUMBERS) and thing > GREATEST_SMALL


def is_pool(thing, many):
    """Whether it is a pool at a gap of so many rows."""
    if not is_pair(thing):
        return False
    gap, numbers = thing
    if not is_number_below(gap, many + 1) or not isinstance(numbers, tuple):
        return False
    if not 1 <= len(numbers) <= MOST_WORDS or not all([is_pooled(number) for number in numbers]):
        return False
    return len(set(numbers)) == len(numbers)


def is_pools(thing, many):
    """Whether it is a list of pools, their gaps rising, among so many rows."""
    if not isinstance(thing, list) or not all([is_pool(pool, many) for pool in thing]):
        return False
    return all([one[0] < other[0] for one, other in zip(thing, thing[1:])])


def reaches(reach, place, begin):
    """Whether a row at a place reaches a pool whose first word is at begin."""
    back, ahead = reach
    return place - begin <= back and begin - place <= ahead


def all_served(rows, longs, reach, pools, uses):
    """Whether each great row reaches the pool it uses, and that has its number."""
    places, begins, end = placed(rows, longs, pools)
    for at, use in zip(greats_of(rows), uses):
        if rows[at][2] not in pools[use][1] or not reaches(reach, places[at], begins[use]):
            return False
    return True


def is_plan(rows, longs, reach, thing):
    """Whether it is a plan of these rows; it may be asked of anything."""
    if not is_pair(thing):
        return False
    pools, uses = thing
    if not is_pools(pools, len(rows)) or not isinstance(uses, list):
        return False
    if len(uses) != len(greats_of(rows)) or not all([is_number_below(use, len(pools)) for use in uses]):
        return False
    return all_served(rows, longs, reach, pools, uses)
