"""Laying: rows and pools written into cells."""

from nearpool.codes import HALF_WORD, OVER, PAD, POOL, row_cells
from nearpool.growing import settled
from nearpool.places import WORD_CELLS, first_word, has_over, placed
from nearpool.rows import greats_of, jumps_of


def pool_cells(rows, gap, numbers, place):
    """The cells of a pool at its gap, an over and a pad ahead of it counted, from a place on."""
    begin = first_word(rows, gap, place)
    cells = []
    if has_over(rows, gap):
        cells += [OVER, begin + WORD_CELLS * len(numbers)]
    if place + len(cells) + 1 < begin:
        cells.append(PAD)
    cells.append(POOL + len(numbers))
    for number in numbers:
        cells += [number // HALF_WORD, number % HALF_WORD]
    return cells


def goals_of(rows, longs, plan):
    """The goal of each jump and each great row, as row_cells takes it, by the row's number."""
    pools, uses = plan
    places, begins, end = placed(rows, longs, pools)
    spots = places + [end]
    goals = {at: spots[rows[at][-1]] for at in jumps_of(rows)}
    for at, use in zip(greats_of(rows), uses):
        goals[at] = (begins[use], pools[use][1].index(rows[at][2]))
    return goals


def laid_cells(rows, longs, plan):
    """The list of cells of the rows and the plan's pools."""
    goals = goals_of(rows, longs, plan)
    words = {gap: numbers for gap, numbers in plan[0]}
    cells = []
    for gap in range(len(rows) + 1):
        if gap in words:
            cells += pool_cells(rows, gap, words[gap], len(cells))
        if gap < len(rows):
            cells += row_cells(rows[gap], len(cells), gap in longs, goals.get(gap))
    return cells


def made(rows, reach, hop):
    """The cells by the longs and the plan to which growing comes."""
    longs, plan = settled(rows, reach, hop)
    return laid_cells(rows, longs, plan)
