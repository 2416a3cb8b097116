"""Whether cells are a laying of given rows."""

from nearpool.errors import BadCells
from nearpool.growing import too_short
from nearpool.places import is_plan
from nearpool.reading import parts_of


def shows_laid(rows, reach, hop, thing):
    """Whether it is a laying of these rows in which all reaches; it may be asked of anything."""
    try:
        read, longs, plan = parts_of(thing)
    except BadCells:
        return False
    return read == rows and not too_short(rows, longs, plan[0], hop) and is_plan(rows, longs, reach, plan)
