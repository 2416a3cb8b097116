"""Cells: how rows are written in them, and what is seen at a place."""

from nearpool.rows import REGISTERS, is_great

STOP = 0
SET = 1000
SUM = 2000
LESS = 3000
TELL = 4000
GREAT = 5000
SHORT_GO = 6500
LONG_GO = 7000
OVER = 7001
PAD = 7002
POOL = 7100
SHORT_NIL = 8100
LONG_NIL = 9000

# A great row's second cell is this where its pool's first word stands at the row's own place.
SAME_PLACE = 5000
FARTHEST_GO = 499
FARTHEST_NIL = 99
NILS_OF_ONE = 200
MOST_WORDS = 100
HALF_WORD = 10000


def jump_cells(row, place, long, goal):
    """The cells of a go or a nil to a place."""
    if row[0] == "go":
        return [LONG_GO, goal] if long else [SHORT_GO + goal - place]
    if long:
        return [LONG_NIL + row[1], goal]
    return [SHORT_NIL + NILS_OF_ONE * row[1] + goal - place]


def row_cells(row, place, long, goal):
    """The list of a row's cells at a place; goal is a jump's place, or a great row's pair (b, k)."""
    word = row[0]
    if word == "stop":
        return [STOP]
    if word == "go" or word == "nil":
        return jump_cells(row, place, long, goal)
    if is_great(row):
        begin, at = goal
        return [GREAT + 100 * row[1] + at, SAME_PLACE + begin - place]
    if word == "set":
        return [SET + 100 * row[1] + row[2]]
    if word == "sum":
        return [SUM + 10 * row[1] + row[2]]
    if word == "less":
        return [LESS + 10 * row[1] + row[2]]
    return [TELL + row[1]]


def pair_seen(word, rest):
    """A sum or a less by what its cell has above the word's own number, or None."""
    one, other = rest // 10, rest % 10
    return (word, one, other) if one < REGISTERS and other < REGISTERS else None


def nil_seen(cell, place):
    """A short nil, or None: the cell between those of two registers is no nil's."""
    lowest = SHORT_NIL - FARTHEST_NIL - 1
    one, step = (cell - lowest) // NILS_OF_ONE, (cell - lowest) % NILS_OF_ONE
    return ("nil", one, place + step - FARTHEST_NIL - 1, False) if step > 0 else None


def lone_seen(cell, place):
    """What is written in one cell at a place, or None."""
    if cell == STOP:
        return ("stop",)
    if SET <= cell < SET + 100 * REGISTERS:
        return ("set", (cell - SET) // 100, cell % 100)
    if SUM <= cell < LESS:
        return pair_seen("sum", cell - SUM)
    if LESS <= cell < TELL:
        return pair_seen("less", cell - LESS)
    if TELL <= cell < TELL + REGISTERS:
        return ("tell", cell - TELL)
    if abs(cell - SHORT_GO) <= FARTHEST_GO:
        return ("go", place + cell - SHORT_GO, False)
    if cell == PAD:
        return ("pad",)
    if SHORT_NIL - FARTHEST_NIL <= cell < LONG_NIL:
        return nil_seen(cell, place)
    return None


def two_seen(cell, second, place):
    """What is written in a cell at a place and the one behind it, or None."""
    if GREAT <= cell < GREAT + 100 * REGISTERS:
        return ("great", (cell - GREAT) // 100, place + second - SAME_PLACE, cell % 100)
    if cell == LONG_GO:
        return ("go", second, True)
    if cell == OVER:
        return ("over", second)
    if LONG_NIL <= cell < LONG_NIL + REGISTERS:
        return ("nil", cell - LONG_NIL, second, True)
    return None


def pool_seen(cells, place):
    """The pair of a pool whose head stands at a place, or None where it is cut off."""
    begin = place + 1
    end = begin + 2 * (cells[place] - POOL)
    if end > len(cells):
        return None
    numbers = [cells[at] * HALF_WORD + cells[at + 1] for at in range(begin, end, 2)]
    return (("pool", tuple(numbers)), end)


def seen_at(cells, place):
    """The pair of what stands whole at a place and the place behind it, or None."""
    if not 0 <= place < len(cells):
        return None
    cell = cells[place]
    if POOL < cell <= POOL + MOST_WORDS:
        return pool_seen(cells, place)
    lone = lone_seen(cell, place)
    if lone is not None:
        return (lone, place + 1)
    if place + 1 == len(cells):
        return None
    two = two_seen(cell, cells[place + 1], place)
    return None if two is None else (two, place + 2)
