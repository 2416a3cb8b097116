"""The fewest pools, by a search through all plans of few rows."""

from nearpool.places import all_served
from nearpool.pooling import pools_for
from nearpool.rows import greats_of


def choices_of(rows):
    """Each way to choose a gap for each great row, as tuples of gaps."""
    choices = [()]
    for at in greats_of(rows):
        choices = [choice + (gap,) for choice in choices for gap in range(len(rows) + 1)]
    return choices


def plan_of(rows, choice):
    """The plan in which each great row reads the pool at the gap chosen for it."""
    gaps = sorted(set(choice))
    words = {gap: [] for gap in gaps}
    for at, gap in zip(greats_of(rows), choice):
        if rows[at][2] not in words[gap]:
            words[gap].append(rows[at][2])
    return ([(gap, tuple(words[gap])) for gap in gaps], [gaps.index(gap) for gap in choice])


def fewest_plan(rows, longs, reach):
    """A plan with as few pools as can be, each with just the numbers of those that read it."""
    # The pools laid late have just their readers' numbers too: so there is a plan to begin with.
    best = pools_for(rows, longs, reach)
    for choice in choices_of(rows):
        if len(set(choice)) < len(best[0]):
            pools, uses = plan_of(rows, choice)
            if all_served(rows, longs, reach, pools, uses):
                best = (pools, uses)
    return best


def fewest_pools(rows, longs, reach):
    """The least number of pools that such a plan has."""
    return len(fewest_plan(rows, longs, reach)[0])
