"""Tests of nearpool.laycheck: point [16], and what [1], [2] and [3] say of it."""

import copy
import inspect
import unittest

from nearpool import laycheck as module
from nearpool.codes import seen_at
from nearpool.laycheck import shows_laid
from nearpool.laying import laid_cells, made
from nearpool.machine import run
from nearpool.plainrun import told_plainly
from nearpool.reading import read_back
from things import (
    LAYINGS, ODD_THINGS, changed, is_great, laying_by_chance, placed_in_words, rows_by_chance, too_short_in_words,
)

ROWS = [("nil", 0, 2), ("set", 0, 1000), ("tell", 0)]
# The nil at 0 goes eight ahead; the great row at 1 reads five ahead.
CELLS = [8108, 5000, 5005, 7001, 8, 7101, 0, 1000, 4000]
LONG = [9000, 4, 5000, 5006, 4000, 7001, 10, 7101, 0, 1000]


def widths(rows, longs, plan):
    """How far back and ahead great rows read, and how far short jumps go."""
    places, begins, end = placed_in_words(rows, longs, plan[0])
    greats = [at for at, row in enumerate(rows) if is_great(row)]
    steps = [begins[use] - places[at] for at, use in zip(greats, plan[1])]
    jumps = [at for at, row in enumerate(rows) if row[0] in ("go", "nil") and at not in longs]
    hops = [abs([*places, end][rows[at][-1]] - places[at]) for at in jumps]
    return max([-step for step in steps] + [0]), max(steps + [6]), max(hops + [0])


class ShowsLaidTest(unittest.TestCase):
    def holds(self, rows, reach, hop, thing, right):
        self.assertIs(shows_laid(rows, reach, hop, thing), right, (rows, reach, hop, thing))

    def test_by_hand(self):
        self.holds(ROWS, (0, 6), 8, CELLS, True)
        self.holds(ROWS, (0, 6), 7, CELLS, False)
        self.holds(ROWS, (0, 6), 0, CELLS, False)
        self.holds(ROWS, (4999, 4999), 499, CELLS, True)
        self.holds(ROWS, (0, 6), 0, LONG, True)
        self.holds(ROWS, (0, 6), 499, LONG, True)
        self.holds([], (0, 6), 0, [], True)
        self.holds([], (0, 6), 0, [7001, 6, 7002, 7101, 0, 100], True)
        self.holds([], (0, 6), 0, [0], False)
        self.holds([("stop",)], (0, 6), 0, [], False)
        self.holds([("stop",)], (0, 6), 0, [0], True)

    def test_a_reach_just_as_wide_and_one_less(self):
        # Rows at 0, 8, 18 and 20, the first words at 6 and 14: read six ahead, and two, four and six back.
        rows = [("set", 0, 1000), ("set", 1, 1000), ("set", 2, 1000), ("set", 3, 2000)]
        pools = [(1, (1000,)), (2, (2000, 1000))]
        cells = laid_cells(rows, [], (pools, [0, 0, 1, 1]))
        self.holds(rows, (6, 6), 0, cells, True)
        self.holds(rows, (5, 6), 0, cells, False)
        self.holds(rows, (0, 6), 0, cells, False)
        self.holds(rows, (6, 7), 0, cells, True)
        # The first row reads the second pool instead, 14 ahead.
        cells = laid_cells(rows, [], (pools, [1, 0, 1, 1]))
        self.holds(rows, (6, 14), 0, cells, True)
        self.holds(rows, (6, 13), 0, cells, False)
        self.holds(rows, (5, 14), 0, cells, False)

    def test_a_hop_just_as_wide_and_one_less(self):
        for rows in ([("go", 3), ("tell", 0), ("tell", 0)], [("tell", 0)] * 3 + [("nil", 0, 0)]):
            cells = laid_cells(rows, [], ([], []))
            self.holds(rows, (0, 6), 3, cells, True)
            self.holds(rows, (0, 6), 2, cells, False)

    def test_the_widest_and_one_less(self):
        checked = set()
        for seed in range(200):
            rows, longs, plan = laying_by_chance(seed, seed % 40, 1 + seed % 4, 1 + seed % 5)
            cells = laid_cells(rows, longs, plan)
            back, ahead, hop = widths(rows, longs, plan)
            self.holds(rows, (back, ahead), hop, cells, True)
            if back > 0:
                self.holds(rows, (back - 1, ahead), hop, cells, False)
            if ahead > 6:
                self.holds(rows, (back, ahead - 1), hop, cells, False)
            if hop > 0:
                self.holds(rows, (back, ahead), hop - 1, cells, False)
            checked |= {(back > 0, "back"), (ahead > 6, "ahead"), (hop > 0, "hop")}
        self.assertEqual(len(checked), 6)

    def test_long_jumps_need_no_hop(self):
        rows = [("go", 3), ("nil", 0, 0), ("go", 1)]
        for longs in ([0, 1, 2], [0, 2], [0]):
            cells = laid_cells(rows, longs, ([], []))
            for hop in range(6):
                self.holds(rows, (0, 6), hop, cells, not too_short_in_words(rows, longs, [], hop))

    def test_what_made_tells(self):
        for seed in range(60):
            rows, longs = rows_by_chance(seed, 2 * seed, 1 + seed % 5, 1 + seed % 5)
            for reach, hop in (((0, 6), 0), ((9, 8), 20), ((60, 60), 99), ((4999, 4999), 499)):
                self.holds(rows, reach, hop, made(rows, reach, hop), True)

    def test_other_rows(self):
        for rows, longs, plan, cells in LAYINGS:
            self.holds(rows, (4999, 4999), 499, cells, True)
            for other, more, another, there in LAYINGS:
                self.holds(other, (4999, 4999), 499, cells, other == rows)
            for at, row in enumerate(rows):
                self.holds(rows[:at] + [("tell", 4)] + rows[at + 1:], (4999, 4999), 499, cells, False)
                self.holds(rows[:at] + [("tell", 4)] + rows[at:], (4999, 4999), 499, cells, False)
            self.holds(rows + [("stop",)], (4999, 4999), 499, cells, False)

    def test_like_rows_that_read_another_number(self):
        cells = [5000, 5006, 7001, 10, 7002, 7102, 0, 1000, 0, 2000]
        self.holds([("set", 0, 1000)], (0, 6), 0, cells, True)
        self.holds([("set", 0, 2000)], (0, 6), 0, cells, False)
        cells[0] = 5001
        self.holds([("set", 0, 1000)], (0, 6), 0, cells, False)
        self.holds([("set", 0, 2000)], (0, 6), 0, cells, True)

    def test_things_of_other_kinds(self):
        for rows in (ROWS, []):
            for thing in ODD_THINGS:
                self.holds(rows, (0, 6), 8, thing, False)
        self.holds(ROWS, (0, 6), 8, tuple(CELLS), False)
        self.holds(ROWS, (0, 6), 8, [CELLS], False)
        self.holds(ROWS, (0, 6), 8, (ROWS, [], ([(2, (1000,))], [0])), False)
        self.holds(ROWS, (0, 6), 8, ROWS, False)
        self.holds([("stop",)], (0, 6), 8, [False], False)

    def test_spoilt_cells(self):
        for right in (CELLS, LONG):
            for thing in changed(right):
                told = shows_laid(ROWS, (0, 6), 8, thing)
                self.assertIs(type(told), bool)
                if told:
                    self.assertEqual(read_back(thing), ROWS)


class RunAsTheRowsDoTest(unittest.TestCase):
    def test_whatever_is_let_by_runs_as_the_rows(self):
        let_by = 0
        for seed in range(60):
            rows, longs, plan = laying_by_chance(seed, 1 + seed % 9, 2, 4)
            cells = laid_cells(rows, longs, plan)
            for thing in self.others(cells):
                if shows_laid(rows, (4999, 4999), 499, thing):
                    let_by += 1
                    for most in (0, 3, 40):
                        self.assertEqual(self.as_rows(thing, rows, most), told_plainly(rows, most), (rows, thing))
        self.assertGreater(let_by, 200)

    def others(self, cells):
        for at, cell in enumerate(cells):
            for step in (-2, -1, 0, 1, 2, 100):
                if 0 <= cell + step <= 9999:
                    yield cells[:at] + [cell + step] + cells[at + 1:]
            yield cells[:at] + cells[at + 1:]
            yield cells[:at] + [cell] + cells[at:]

    def as_rows(self, cells, rows, most):
        told, end, trace = run(cells, most)
        places = []
        place = 0
        while place < len(cells):
            thing, behind = seen_at(cells, place)
            if thing[0] not in ("over", "pad", "pool"):
                places.append(place)
            place = behind
        return (told, end, [places.index(place) for place in trace])


class TheAskersOwnTest(unittest.TestCase):
    def test_nothing_is_changed(self):
        for thing in [CELLS, LONG, [], [7001], [CELLS], None, [8108, True], [[8108], (5000,)]]:
            rows, kept = list(ROWS), copy.deepcopy(thing)
            first = shows_laid(rows, (0, 6), 8, thing)
            self.assertEqual((rows, repr(thing)), (ROWS, repr(kept)))
            self.assertIs(shows_laid(rows, (0, 6), 8, thing), first)

    def test_arguments_are_as_the_interface_has_them(self):
        self.assertEqual(list(inspect.signature(module.shows_laid).parameters), ["rows", "reach", "hop", "thing"])


if __name__ == "__main__":
    unittest.main()
