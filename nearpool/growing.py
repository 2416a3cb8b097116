"""Growing: which jumps must be long, so that all reach."""

from nearpool.codes import FARTHEST_NIL
from nearpool.places import placed
from nearpool.pooling import pools_for
from nearpool.rows import jumps_of


def farthest(row, hop):
    """How far a jump reaches while it is short."""
    return min(hop, FARTHEST_NIL) if row[0] == "nil" else hop


def too_short(rows, longs, pools, hop):
    """The rising list of the jumps that aren't long and don't reach."""
    places, begins, end = placed(rows, longs, pools)
    goals = places + [end]
    short = [at for at in jumps_of(rows) if at not in longs]
    return [at for at in short if abs(goals[rows[at][-1]] - places[at]) > farthest(rows[at], hop)]


def least_longs(rows, hop):
    """The least of all longs with which each jump reaches, without pools."""
    longs = []
    short = too_short(rows, longs, [], hop)
    # A row that grows brings no two rows nearer: so whatever is too short once must be long.
    while short:
        longs = sorted(longs + short)
        short = too_short(rows, longs, [], hop)
    return longs


def settled(rows, reach, hop):
    """The pair (longs, plan) with which each jump and each great row reaches."""
    longs = []
    plan = pools_for(rows, longs, reach)
    short = too_short(rows, longs, plan[0], hop)
    while short:
        longs = sorted(longs + short)
        plan = pools_for(rows, longs, reach)
        short = too_short(rows, longs, plan[0], hop)
    return (longs, plan)
