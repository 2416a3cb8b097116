"""Reading back: the rows, longs and plan of which cells are the laying."""

from nearpool.codes import seen_at
from nearpool.errors import BadCells
from nearpool.laying import laid_cells
from nearpool.places import is_plan, placed
from nearpool.rows import is_number_below

CELLS = 10000
WIDEST = (4999, 4999)

# What stands in a gap, between rows.
BETWEEN = ("over", "pad", "pool")


def is_cells(thing):
    """Whether it is a list of cells; it may be asked of anything."""
    return isinstance(thing, list) and all([is_number_below(cell, CELLS) for cell in thing])


def all_seen(cells):
    """The list of pairs of a place and what stands there, one straight behind another."""
    seen = []
    place = 0
    while place < len(cells):
        found = seen_at(cells, place)
        if found is None:
            raise BadCells(f"nothing is written at place {place}")
        seen.append((place, found[0]))
        place = found[1]
    return seen


def pools_in(seen):
    """The pair of the pools and of the places of their first words."""
    pools = []
    begins = []
    gap = 0
    for place, thing in seen:
        if thing[0] == "pool":
            pools.append((gap, thing[1]))
            begins.append(place + 1)
        elif thing[0] not in BETWEEN:
            gap += 1
    return (pools, begins)


def words_in(pools, begins):
    """The pair of a pool's number and a word, by what a great row reads it by: the pair (b, k)."""
    words = {}
    for at, begin in enumerate(begins):
        for k, number in enumerate(pools[at][1]):
            words[(begin, k)] = (at, number)
    return words


def looked_up(table, goal):
    """What stands for a goal in a table; refused where there is no such goal."""
    if goal not in table:
        raise BadCells(f"nothing to be gone to or read has the goal {goal}")
    return table[goal]


def row_read(thing, goals, words):
    """The row that is so seen; goals are the rows' numbers by their places."""
    if thing[0] == "go":
        return ("go", looked_up(goals, thing[1]))
    if thing[0] == "nil":
        return ("nil", thing[1], looked_up(goals, thing[2]))
    if thing[0] == "great":
        return ("set", thing[1], looked_up(words, thing[2:])[1])
    return thing


def parts_of(cells):
    """The tuple (rows, longs, plan) of which the cells are the laying; it may be asked of anything."""
    if not is_cells(cells):
        raise BadCells("these are no cells")
    seen = all_seen(cells)
    pools, begins = pools_in(seen)
    words = words_in(pools, begins)
    places = [place for place, thing in seen if thing[0] not in BETWEEN]
    things = [thing for place, thing in seen if thing[0] not in BETWEEN]
    goals = {place: at for at, place in enumerate(places + [len(cells)])}
    rows = [row_read(thing, goals, words) for thing in things]
    longs = [at for at, thing in enumerate(things) if thing[-1] is True]
    plan = (pools, [looked_up(words, thing[2:])[0] for thing in things if thing[0] == "great"])
    if not is_plan(rows, longs, WIDEST, plan):
        raise BadCells("the pools are no plan of the rows")
    # Overs and pads were passed by till now: laid anew, all must come to where it was seen, and as it was.
    if placed(rows, longs, pools) != (places, begins, len(cells)) or laid_cells(rows, longs, plan) != cells:
        raise BadCells("an over or a pad is not as it must be")
    return (rows, longs, plan)


def read_back(cells):
    """The rows of which the cells are the laying; it may be asked of anything."""
    return parts_of(cells)[0]
