"""Tests of nearpool.machine: point [14], and what [1], [2] and [3] say of it."""

import inspect
import random
import unittest

from nearpool import machine as module
from nearpool.codes import seen_at
from nearpool.growing import settled
from nearpool.laying import laid_cells, made
from nearpool.machine import run
from nearpool.places import placed
from nearpool.plainrun import told_plainly
from things import TOP, laying_by_chance, lists_in, rows_by_chance

TELLS = [4000, 4001, 4002, 4003, 4004]


class RunTest(unittest.TestCase):
    def runs(self, cells, most, right):
        self.assertEqual(repr(run(cells, most)), repr(right), (cells, most))


class EachRowTest(RunTest):
    def test_no_cells(self):
        for most in (0, 1, 2000):
            self.runs([], most, ([], "ended", []))

    def test_registers_hold_nought_at_first(self):
        self.runs(TELLS, 5, ([0, 0, 0, 0, 0], "ended", [0, 1, 2, 3, 4]))

    def test_sets(self):
        self.runs([1000, 1199, 1207, 1342, 1401] + TELLS, 10, ([0, 99, 7, 42, 1], "ended", list(range(10))))

    def test_sum_and_less_by_their_rest(self):
        # 1 less 2 is 99,999,999; with 2 more it is 1 again.
        self.runs([1001, 1102, 3001, 4000, 2001, 4000], 9, ([TOP, 1], "ended", [0, 1, 2, 3, 4, 5]))
        self.runs([1499, 2044, 4004, 3044, 4004], 9, ([198, 0], "ended", [0, 1, 2, 3, 4]))

    def test_stop(self):
        self.runs([0], 1, ([], "stopped", [0]))
        self.runs([4003, 0, 4003], 9, ([0], "stopped", [0, 1]))
        self.runs([0, 7777], 9, ([], "stopped", [0]))

    def test_goes(self):
        self.runs([6502, 4000, 0], 9, ([], "stopped", [0, 2]))
        self.runs([7000, 3, 4000, 0], 9, ([], "stopped", [0, 3]))
        self.runs([6503, 4000, 0, 6498], 9, ([0], "stopped", [0, 3, 1, 2]))
        self.runs([6503, 4000, 0, 7000, 1], 9, ([0], "stopped", [0, 3, 1, 2]))

    def test_nils(self):
        self.runs([8102, 4000, 0], 9, ([], "stopped", [0, 2]))
        self.runs([1001, 8102, 4000, 0], 9, ([1], "stopped", [0, 1, 2, 3]))
        self.runs([1001, 8302, 4000, 0], 9, ([], "stopped", [0, 1, 3]))
        self.runs([9002, 3, 4000, 0], 9, ([], "stopped", [0, 3]))
        self.runs([1201, 9002, 4, 4002, 0], 9, ([1], "stopped", [0, 1, 3, 4]))

    def test_great_rows(self):
        # The pool behind the row and ahead of it, the first word and the last one.
        self.runs([5000, 5005, 4000, 0, 7101, 12, 3456], 9, ([123456], "stopped", [0, 2, 3]))
        self.runs([5302, 5006, 4003, 0, 0, 7103, 0, 1, 0, 2, 9999, 9999], 9, ([TOP], "stopped", [0, 2, 3]))
        self.runs([7001, 5, 7101, 77, 1, 5400, 4998, 4004], 9, ([770001], "ended", [5, 7]))
        # A word that no plan has.
        self.runs([5000, 5005, 4000, 0, 7101, 0, 0], 9, ([0], "stopped", [0, 2, 3]))


class EndsTest(RunTest):
    def test_ended_where_the_next_place_is_behind_all_cells(self):
        self.runs([4000], 1, ([0], "ended", [0]))
        self.runs([6501], 1, ([], "ended", [0]))
        self.runs([6502, 7777], 1, ([], "ended", [0]))
        self.runs([7000, 3, 7777], 1, ([], "ended", [0]))
        self.runs([8102, 7777], 1, ([], "ended", [0]))
        self.runs([9000, 2], 5, ([], "ended", [0]))
        self.runs([7001, 3, 0], 0, ([], "ended", []))

    def test_going_where_so_many_are_done(self):
        self.runs([0], 0, ([], "going", []))
        self.runs([4000, 4000], 0, ([], "going", []))
        self.runs([4000, 4000], 1, ([0], "going", [0]))
        self.runs([4000, 4000], 2, ([0, 0], "ended", [0, 1]))
        self.runs([4000, 4000], 3, ([0, 0], "ended", [0, 1]))
        self.runs([4000, 0], 1, ([0], "going", [0]))
        self.runs([4000, 0], 2, ([0], "stopped", [0, 1]))
        self.runs([6500], 7, ([], "going", [0] * 7))
        self.runs([7000, 0], 2000, ([], "going", [0] * 2000))

    def test_bad_where_nothing_stands(self):
        for cell in (1, 999, 7100, 7201, 8000, 9999, 7777):
            self.runs([cell, 0, 0], 9, ([], "bad", []))
            self.runs([4000, cell, 0, 0], 9, ([0], "bad", [0]))
        # Cut off: of two cells one, of a pool some.
        for cells in ([7000], [7001], [9000], [5000], [7101], [7101, 0]):
            self.runs(cells, 9, ([], "bad", []))
            self.runs([4000] + cells, 9, ([0], "bad", [0]))

    def test_bad_at_a_pad_or_a_pool(self):
        self.runs([7002], 9, ([], "bad", []))
        self.runs([7002, 0], 9, ([], "bad", []))
        self.runs([7101, 0, 0, 0], 9, ([], "bad", []))
        self.runs([4000, 7002, 0], 9, ([0], "bad", [0]))
        self.runs([6502, 0, 7101, 0, 100, 0], 9, ([], "bad", [0]))
        self.runs([4000, 7101, 0, 0, 4000], 9, ([0], "bad", [0]))

    def test_bad_ahead_of_going(self):
        for behind in ([7002], [7101, 0, 0], [7777], [7000], [5000, 5000, 0]):
            self.runs(behind, 0, ([], "bad", []))
            self.runs([4000] + behind, 1, ([0], "bad", [0]))
            self.runs([4000] + behind, 0, ([], "going", []))

    def test_ended_ahead_of_all_else(self):
        self.runs([6500 + 3, 0, 7002], 1, ([], "ended", [0]))
        self.runs([4000], 1, ([0], "ended", [0]))
        self.runs([], 0, ([], "ended", []))

    def test_a_jump_to_where_nothing_stands_is_done(self):
        # Below 0, and beyond the place behind all.
        self.runs([6499, 0], 9, ([], "bad", [0]))
        self.runs([6001, 0], 9, ([], "bad", [0]))
        self.runs([6503, 0], 9, ([], "bad", [0]))
        self.runs([6999, 0], 9, ([], "bad", [0]))
        self.runs([7000, 9999], 9, ([], "bad", [0]))
        self.runs([7000, 3], 9, ([], "bad", [0]))
        self.runs([8099, 0], 9, ([], "bad", [0]))
        self.runs([8103, 0], 9, ([], "bad", [0]))
        self.runs([9000, 4, 0], 9, ([], "bad", [0]))
        self.runs([4000, 6498, 0], 9, ([0], "bad", [0, 1]))
        # A place below 0 isn't one counted from the end.
        self.runs([6499, 4000, 4000], 1, ([], "bad", [0]))
        self.runs([6497, 4000, 0], 9, ([], "bad", [0]))
        # Where most is done just by the jump.
        self.runs([6499], 1, ([], "bad", [0]))
        self.runs([6502], 1, ([], "bad", [0]))
        self.runs([6501], 1, ([], "ended", [0]))
        # A nil that doesn't jump isn't bad by its goal.
        self.runs([1001, 8001, 0], 9, ([], "stopped", [0, 1, 2]))

    def test_into_the_midst_of_something(self):
        # The long go's second cell is a tell's.
        self.runs([7000, 3, 0, 7000, 4001], 9, ([], "bad", [0, 3]))
        self.runs([6502, 7000, 4001, 0], 9, ([0], "stopped", [0, 2, 3]))
        self.runs([6503, 7101, 1, 1207, 4002], 9, ([7], "ended", [0, 3, 4]))


class GreatRowsTest(RunTest):
    def test_no_pool_there(self):
        for second in (0, 1, 4999, 5000, 5001, 5002, 5003, 5004, 5006, 5007, 9999):
            self.runs([5000, second, 0, 0, 7101, 0, 100], 9, ([], "bad", []))
            self.runs([5000, second, 0, 0, 7101, 0, 100], 0, ([], "bad", []))
        self.runs([5000, 5005, 0, 0, 7101, 0, 100], 9, ([], "stopped", [0, 2]))
        self.runs([5000, 5005, 0, 0, 7101, 0, 100], 0, ([], "going", []))

    def test_something_else_there(self):
        for there in ([7002], [0], [4000], [7001, 0], [7000, 0], [7777], [7100], [5000, 5000]):
            self.runs([5000, 5005, 0, 0] + there + [0, 0], 9, ([], "bad", []))

    def test_a_pool_that_is_too_short_or_cut_off(self):
        cells = [5100, 5006, 4001, 0, 0, 7103, 0, 1, 0, 2, 0, 3]
        for at, right in ((0, 1), (1, 2), (2, 3)):
            self.runs([5100 + at] + cells[1:], 9, ([right], "stopped", [0, 2, 3]))
        for at in (3, 4, 99):
            self.runs([5100 + at] + cells[1:], 9, ([], "bad", []))
        self.runs(cells[:-1], 9, ([], "bad", []))
        self.runs(cells[:7], 9, ([], "bad", []))

    def test_what_was_done_ahead_stays(self):
        self.runs([4000, 1105, 5103, 5004, 4001, 7101, 0, 1], 9, ([0], "bad", [0, 1]))
        self.runs([4000, 1105, 5103, 5004, 4001, 7101, 0, 1], 2, ([0], "bad", [0, 1]))
        self.runs([4000, 1105, 5103, 5004, 4001, 7101, 0, 1], 1, ([0], "going", [0]))

    def test_a_place_below_0_is_none(self):
        # The pool's head would be the last but two, if places were counted from the end.
        self.runs([5000, 4998, 0, 7101, 0, 100], 9, ([], "bad", []))
        self.runs([5000, 5000, 0, 0, 0, 7101], 9, ([], "bad", []))


class OversTest(RunTest):
    def test_an_over_goes_on_and_does_not_count(self):
        cells = [4000, 7001, 6, 7101, 0, 100, 4001]
        self.runs(cells, 9, ([0, 0], "ended", [0, 6]))
        self.runs(cells, 2, ([0, 0], "ended", [0, 6]))
        self.runs(cells, 1, ([0], "going", [0]))
        self.runs(cells, 0, ([], "going", []))

    def test_an_over_behind_the_last_row_that_may_be_done(self):
        # To the end: ended. To where nothing stands, a pad, a pool: bad. To a row: going.
        self.runs([4000, 7001, 3], 1, ([0], "ended", [0]))
        self.runs([4000, 7001, 4], 1, ([0], "bad", [0]))
        self.runs([4000, 7001, 9999], 1, ([0], "bad", [0]))
        self.runs([4000, 7001, 3, 7002], 1, ([0], "bad", [0]))
        self.runs([4000, 7001, 3, 7101, 0, 0], 1, ([0], "bad", [0]))
        self.runs([4000, 7001, 3, 5000, 5000], 1, ([0], "bad", [0]))
        self.runs([4000, 7001, 3, 0], 1, ([0], "going", [0]))
        self.runs([4000, 7001, 3, 0], 2, ([0], "stopped", [0, 3]))

    def test_at_the_very_first_place(self):
        self.runs([7001, 2], 0, ([], "ended", []))
        self.runs([7001, 3, 7002, 4000], 1, ([0], "ended", [3]))
        self.runs([7001, 3, 7002, 4000], 0, ([], "going", []))
        self.runs([7001, 2, 7002, 4000], 0, ([], "bad", []))

    def test_gone_to_by_a_jump(self):
        self.runs([6503, 4000, 0, 7001, 1], 9, ([0], "stopped", [0, 1, 2]))
        self.runs([6503, 4000, 0, 7001, 1], 1, ([], "going", [0]))

    def test_many_overs_one_behind_another(self):
        cells = []
        for at in range(200):
            cells += [7001, 2 * at + 2]
        self.runs(cells, 0, ([], "ended", []))
        self.runs(cells + [4000], 1, ([0], "ended", [400]))
        self.runs(cells + [7002], 1, ([], "bad", []))
        # Backwards, too.
        cells = [7001, 404, 4000, 0, 7001, 2]
        for at in range(6, 404, 2):
            cells += [7001, at - 2]
        self.runs(cells + [7001, 402], 2, ([0], "stopped", [2, 3]))


def run_in_words(cells, most):
    """The run by the words of [14]; None where more than 200 overs come one behind another."""
    held, told, trace, place, overs = [0] * 5, [], [], 0, 0
    while place != len(cells):
        seen = seen_at(cells, place)
        word = None if seen is None else seen[0][0]
        if word in (None, "pad", "pool"):
            return (told, "bad", trace)
        parts, behind = seen[0][1:], seen[1]
        if word == "over":
            place, overs = parts[0], overs + 1
            if overs > 200:
                return None
            continue
        overs = 0
        if word == "great":
            pool = seen_at(cells, parts[1] - 1)
            if pool is None or pool[0][0] != "pool" or not parts[2] < len(pool[0][1]):
                return (told, "bad", trace)
        if len(trace) == most:
            return (told, "going", trace)
        trace.append(place)
        place = behind
        if word == "stop":
            return (told, "stopped", trace)
        if word == "great":
            held[parts[0]] = pool[0][1][parts[2]]
        if word == "set":
            held[parts[0]] = parts[1]
        if word in ("sum", "less"):
            other = held[parts[1]] if word == "sum" else -held[parts[1]]
            held[parts[0]] = (held[parts[0]] + other) % 100000000
        if word == "tell":
            told.append(held[parts[0]])
        if word == "go":
            place = parts[0]
        if word == "nil" and held[parts[0]] == 0:
            place = parts[1]
    return (told, "ended", trace)


def cells_by_chance(chance, many):
    """Cells that no laying has, of which a good part can be run."""
    cells = []
    while len(cells) < many:
        r, s, step, place = chance.randrange(5), chance.randrange(5), chance.randrange(-4, 9), chance.randrange(many + 2)
        cells += chance.choice([
            [1000 + 100 * r + s], [2000 + 10 * r + s], [3000 + 10 * r + s], [4000 + r], [4000 + r], [4000 + r], [6500 + step],
            [8100 + 200 * r + step], [7000, place], [9000 + r, place], [7001, place], [7101, s, 100 * r], [7102, 1, s, 2, r],
            [5000 + 100 * r + s % 2, 5000 + chance.randrange(-12, 12)], chance.choice([[0], [7002], [7777]]),
        ])
    return cells


class ByChanceTest(RunTest):
    def test_cells_that_no_laying_has(self):
        ends = {}
        chance = random.Random(5)
        for seed in range(6000):
            cells = cells_by_chance(chance, 1 + seed % 40)
            for most in (0, 1, 2, 3, 8, 60):
                right = run_in_words(cells, most)
                if right is not None:
                    self.runs(cells, most, right)
                    ends[right[1]] = ends.get(right[1], 0) + 1
        self.assertEqual(sorted(ends), ["bad", "ended", "going", "stopped"])
        self.assertGreater(min(ends.values()), 300)

    def test_cells_of_layings_one_of_them_otherwise(self):
        chance = random.Random(6)
        for seed in range(300):
            cells = laid_cells(*laying_by_chance(seed, 1 + seed % 12, 3, 4))
            at = chance.randrange(len(cells))
            cells[at] = chance.choice([chance.randrange(10000), (cells[at] + 1) % 10000, (cells[at] - 1) % 10000])
            for most in (0, 3, 50):
                right = run_in_words(cells, most)
                if right is not None:
                    self.runs(cells, most, right)


class AsTheRowsDoTest(unittest.TestCase):
    def same(self, rows, longs, plan, cells, most):
        told, end, went = told_plainly(rows, most)
        places, begins, behind = placed(rows, longs, plan[0])
        trace = [places[at] for at in went]
        self.assertEqual(run(cells, most), (told, end, trace), (rows, longs, plan, most))
        within = {begin + at for begin, (gap, words) in zip(begins, plan[0]) for at in range(-1, 2 * len(words))}
        self.assertFalse(within & set(trace))
        return end

    def test_what_made_tells_runs_as_the_rows(self):
        ends = set()
        for seed in range(300):
            rows, longs = rows_by_chance(seed, seed % 60, 1 + seed % 5, 1 + seed % 5)
            for reach, hop in (((0, 6), 0), ((0, 6), 499), ((9, 8), 5), ((40, 40), 50), ((4999, 4999), 499)):
                longs, plan = settled(rows, reach, hop)
                cells = made(rows, reach, hop)
                for most in (0, 1, 2, 7, 300):
                    ends.add(self.same(rows, longs, plan, cells, most))
        self.assertEqual(ends, {"ended", "going", "stopped"})

    def test_most_done_just_at_the_end(self):
        rows = [("set", 0, 1000), ("tell", 0), ("set", 1, 2000), ("sum", 0, 1), ("tell", 0)]
        for reach in ((0, 6), (4, 6), (0, 9), (4999, 4999)):
            longs, plan = settled(rows, reach, 0)
            for most, end in ((4, "going"), (5, "ended"), (6, "ended")):
                self.assertEqual(self.same(rows, longs, plan, made(rows, reach, 0), most), end)
            for most in range(5):
                self.assertEqual(self.same(rows, longs, plan, made(rows, reach, 0), most), "going")

    def test_a_long_run(self):
        rows = [
            ("set", 0, 1000), ("set", 1, 1), ("set", 2, TOP), ("tell", 0), ("less", 0, 1), ("nil", 0, 8), ("sum", 3, 2),
            ("go", 3), ("tell", 3), ("stop",),
        ]
        for reach, hop in (((0, 6), 0), ((2, 6), 4), ((0, 9), 9), ((4999, 4999), 499)):
            longs, plan = settled(rows, reach, hop)
            for most in (1999, 2000):
                self.assertEqual(self.same(rows, longs, plan, made(rows, reach, hop), most), "going")
            self.assertEqual(self.same(rows, longs, plan, made(rows, reach, hop), 9999), "stopped")

    def test_any_laying_runs_as_the_rows(self):
        for seed in range(400):
            rows, longs, plan = laying_by_chance(seed, seed % 40, 1 + seed % 5, seed % 6)
            cells = laid_cells(rows, longs, plan)
            for most in (0, 1, 5, 200):
                self.same(rows, longs, plan, cells, most)


class TheAskersOwnTest(unittest.TestCase):
    def test_nothing_is_changed_and_answers_are_the_askers_own(self):
        for cells in ([], [0], [4000, 4000], [4000, 7002], [4000, 7001, 6, 7101, 0, 100, 4001]):
            for most in (0, 1, 9):
                kept = list(cells)
                told = run(cells, most)
                right = (list(told[0]), told[1], list(told[2]))
                found = list(lists_in(told)) + list(lists_in(run(cells, most))) + [cells]
                self.assertEqual(len({id(one) for one in found}), len(found))
                told[0].append(5)
                told[2].append(5)
                self.assertEqual(run(cells, most), right)
                self.assertEqual(cells, kept)

    def test_later_changes_of_the_cells(self):
        cells = [1005, 4000]
        told = run(cells, 9)
        cells[0] = 0
        self.assertEqual(told, ([5], "ended", [0, 1]))
        self.assertEqual(run(cells, 9), ([], "stopped", [0]))

    def test_kinds(self):
        told = run([4000], 9)
        self.assertEqual([type(told)] + [type(part) for part in told], [tuple, list, str, list])

    def test_arguments_are_as_the_interface_has_them(self):
        self.assertEqual(list(inspect.signature(module.run).parameters), ["cells", "most"])


if __name__ == "__main__":
    unittest.main()
