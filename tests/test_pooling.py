"""Tests of nearpool.pooling: point [9], and what [2] and [10] say of it."""

import copy
import inspect
import itertools
import unittest

from nearpool import pooling as module
from nearpool.needed import needed_rows
from nearpool.places import is_plan
from nearpool.pooling import pools_for
from things import TOP, is_great, laid_in_words, lists_in, rows_by_chance

FOUR = [("set", 0, 1000), ("set", 1, 1000), ("set", 2, 2000), ("set", 3, 1000)]
TELLS = [("set", 0, 1000), ("tell", 0), ("tell", 0), ("stop",), ("tell", 0)]
NILS = [("set", 0, 1000), ("nil", 0, 0), ("nil", 0, 0), ("tell", 0)]
GOES = [("set", 0, 1000), ("go", 0), ("set", 0, 2000)]


def place_of(cells, what):
    return cells.index(what)


def begin_at(rows, longs, pools, gap):
    """The place of the first word of one more pool, at a gap behind those of all others."""
    return place_of(laid_in_words(rows, longs, pools + [(gap, (100,))]), ("word", len(pools), 0))


def must_lay(rows, longs, reach, pools, waiting, gap):
    """Whether the words of [9] have a pool at the gap."""
    if not waiting:
        return False
    if gap == len(rows):
        return True
    first = place_of(laid_in_words(rows, longs, pools), ("row", waiting[0]))
    return begin_at(rows, longs, pools, gap + 1) > first + reach[1]


def pools_in_words(rows, longs, reach):
    """The plan by the words of [9], all cells laid anew for each question."""
    pools, readers, waiting = [], {}, []
    for gap in range(len(rows) + 1):
        if must_lay(rows, longs, reach, pools, waiting, gap):
            for at in waiting:
                readers[at] = len(pools)
            pools = pools + [(gap, tuple({rows[at][2]: True for at in waiting}))]
            waiting = []
        if gap < len(rows) and is_great(rows[gap]):
            number = rows[gap][2]
            reads = False
            if pools:
                cells = laid_in_words(rows, longs, pools)
                step = place_of(cells, ("row", gap)) - place_of(cells, ("word", len(pools) - 1, 0))
                if number in pools[-1][1]:
                    reads = step <= reach[0]
                elif not waiting and step + 2 <= reach[0]:
                    pools = pools[:-1] + [(pools[-1][0], pools[-1][1] + (number,))]
                    reads = True
            if reads:
                readers[gap] = len(pools) - 1
            else:
                waiting = waiting + [gap]
    return (pools, [readers[at] for at in range(len(rows)) if is_great(rows[at])])


class ByHandTest(unittest.TestCase):
    def tells(self, rows, longs, reach, right):
        told = pools_for(rows, longs, reach)
        self.assertEqual(repr(told), repr(right), (rows, longs, reach))
        self.assertIs(is_plan(rows, longs, reach, told), True)

    def test_no_great_row(self):
        for reach in ((0, 6), (4999, 4999)):
            self.tells([], [], reach, ([], []))
            self.tells([("set", 0, 99), ("go", 0), ("nil", 1, 3)], [1], reach, ([], []))

    def test_one_great_row(self):
        for reach in ((0, 6), (0, 4999), (4999, 6), (4999, 4999)):
            self.tells([("set", 0, 100)], [], reach, ([(1, (100,))], [0]))
            self.tells([("tell", 0), ("set", 0, TOP)], [], reach, ([(2, (TOP,))], [0]))

    def test_as_late_as_it_still_reaches(self):
        # At gap 2 the first word would be at 6, at gap 3 at 8, at gap 4 (no over) at 6, at gap 5 at 10.
        self.tells(TELLS, [], (0, 6), ([(2, (1000,))], [0]))
        self.tells(TELLS, [], (0, 7), ([(2, (1000,))], [0]))
        self.tells(TELLS, [], (0, 8), ([(4, (1000,))], [0]))
        self.tells(TELLS, [], (0, 9), ([(4, (1000,))], [0]))
        self.tells(TELLS, [], (0, 10), ([(5, (1000,))], [0]))
        self.tells(TELLS, [], (0, 4999), ([(5, (1000,))], [0]))

    def test_the_back_does_not_count_for_the_first(self):
        for back in (0, 1, 100, 4999):
            self.tells(TELLS, [], (back, 6), ([(2, (1000,))], [0]))

    def test_long_jumps_push_it_ahead(self):
        self.tells(NILS, [], (0, 7), ([(2, (1000,))], [0]))
        self.tells(NILS, [], (0, 8), ([(4, (1000,))], [0]))
        self.tells(NILS, [1], (0, 7), ([(1, (1000,))], [0]))
        self.tells(NILS, [1], (0, 8), ([(3, (1000,))], [0]))
        self.tells(NILS, [1, 2], (0, 8), ([(2, (1000,))], [0]))
        self.tells(NILS, [1, 2], (0, 10), ([(4, (1000,))], [0]))

    def test_like_numbers_once_and_in_order(self):
        self.tells(FOUR, [], (0, 12), ([(4, (1000, 2000))], [0, 0, 0, 0]))
        rows = [("set", 0, 3000), ("set", 1, 1000), ("set", 1, 3000), ("set", 2, 2000), ("set", 4, 1000)]
        self.tells(rows, [], (0, 4999), ([(5, (3000, 1000, 2000))], [0] * 5))

    def test_without_back_each_its_own(self):
        right = ([(1, (1000,)), (2, (1000,)), (3, (2000,)), (4, (1000,))], [0, 1, 2, 3])
        self.tells(FOUR, [], (0, 6), right)
        self.tells(FOUR, [], (1, 6), right)
        self.tells(FOUR, [], (1, 7), right)

    def test_a_number_the_pool_has_is_read_from_behind(self):
        right = ([(1, (1000,)), (3, (2000,)), (4, (1000,))], [0, 0, 1, 2])
        self.tells(FOUR, [], (2, 6), right)
        self.tells(FOUR, [], (3, 6), right)

    def test_a_number_is_put_behind_the_others(self):
        self.tells(FOUR, [], (4, 6), ([(1, (1000,)), (3, (2000, 1000))], [0, 0, 1, 1]))
        self.tells(FOUR, [], (5, 6), ([(1, (1000,)), (3, (2000, 1000))], [0, 0, 1, 1]))

    def test_a_number_that_is_put_pushes_the_rows_behind(self):
        self.tells(FOUR, [], (6, 6), ([(1, (1000, 2000)), (4, (1000,))], [0, 0, 0, 1]))
        self.tells(FOUR, [], (7, 6), ([(1, (1000, 2000)), (4, (1000,))], [0, 0, 0, 1]))
        self.tells(FOUR, [], (8, 6), ([(1, (1000, 2000))], [0, 0, 0, 0]))

    def test_behind_a_row_that_does_not_fall(self):
        # The go at 2, the head at 3, the word at 4 and 5: row 2 at 6.
        self.tells(GOES, [], (0, 6), ([(2, (1000,)), (3, (2000,))], [0, 1]))
        self.tells(GOES, [], (3, 6), ([(2, (1000,)), (3, (2000,))], [0, 1]))
        self.tells(GOES, [], (4, 6), ([(2, (1000, 2000))], [0, 0]))
        self.tells(GOES, [], (4, 8), ([(3, (1000, 2000))], [0, 0]))
        # The go at 2 and 3, the pad at 4, the head at 5, the word at 6 and 7: row 2 at 8.
        self.tells(GOES, [1], (0, 6), ([(2, (1000,)), (3, (2000,))], [0, 1]))
        self.tells(GOES, [1], (4, 6), ([(2, (1000, 2000))], [0, 0]))

    def test_a_pool_that_is_too_far_behind(self):
        rows = [("set", 0, 1000)] + [("tell", 0)] * 40 + [("set", 0, 2000), ("stop",), ("set", 0, 1000)]
        # The first word at 6, row 41 at 47, which is 41 behind it, and two more if its number were put there.
        self.tells(rows, [], (42, 6), ([(2, (1000,)), (43, (2000, 1000))], [0, 1, 1]))
        # Row 41 at 49 then, and row 43 at 52, which is 46 behind it.
        self.tells(rows, [], (43, 6), ([(2, (1000, 2000)), (44, (1000,))], [0, 0, 1]))
        self.tells(rows, [], (45, 6), ([(2, (1000, 2000)), (44, (1000,))], [0, 0, 1]))
        self.tells(rows, [], (46, 6), ([(2, (1000, 2000))], [0, 0, 0]))

    def test_the_most_rows(self):
        rows = [("set", at % 5, 100 + at) for at in range(60)] + [("tell", 0)] * 60
        self.tells(rows, [], (4999, 4999), ([(120, tuple(range(100, 160)))], [0] * 60))
        # Behind the last great row there is a tell, which is short enough to stand ahead of the pool.
        gaps = list(range(1, 60)) + [61]
        self.tells(rows, [], (0, 6), ([(gap, (100 + at,)) for at, gap in enumerate(gaps)], list(range(60))))
        self.tells(rows, [], (4999, 6), ([(1, tuple(range(100, 160)))], [0] * 60))


class InWordsTest(unittest.TestCase):
    def test_small_rows_by_each_small_reach(self):
        for seed in range(60):
            rows, longs = rows_by_chance(seed, 1 + seed % 8, 1 + seed % 3, 6)
            for reach in itertools.product((0, 1, 2, 3, 4, 5, 6, 8, 9, 15), (6, 7, 8, 9, 10, 12, 13)):
                right = pools_in_words(rows, longs, reach)
                self.assertEqual(pools_for(rows, longs, reach), right, (rows, longs, reach))

    def test_many_rows_by_wide_and_small_reaches(self):
        for seed in range(20):
            rows, longs = rows_by_chance(seed, 60 + seed, 1 + seed, 3 + seed % 5)
            for reach in ((0, 6), (9, 6), (3, 25), (20, 20), (51, 7), (70, 30), (4999, 6), (0, 4999), (4999, 4999)):
                self.assertEqual(pools_for(rows, longs, reach), pools_in_words(rows, longs, reach), (seed, reach))


class AmongPlansTest(unittest.TestCase):
    def test_it_is_a_plan_with_no_fewer_pools_than_needed(self):
        for seed in range(120):
            rows, longs = rows_by_chance(seed, seed, 1 + seed % 7, 2 + seed % 4)
            for reach in ((0, 6), (1, 6), (10, 7), (6, 14), (31, 30), (200, 100), (4999, 4999)):
                plan = pools_for(rows, longs, reach)
                self.assertIs(is_plan(rows, longs, reach, plan), True, (rows, longs, reach, plan))
                self.assertGreaterEqual(len(plan[0]), len(needed_rows(rows, longs, reach)))

    def test_each_pool_is_read_and_has_just_its_readers_numbers(self):
        for seed in range(60):
            rows, longs = rows_by_chance(seed, 2 * seed, 1 + seed % 7, 2 + seed % 4)
            numbers = [row[2] for row in rows if is_great(row)]
            for reach in ((0, 6), (10, 7), (6, 14), (31, 30), (4999, 4999)):
                pools, uses = pools_for(rows, longs, reach)
                read = [sorted({n for n, use in zip(numbers, uses) if use == at}) for at in range(len(pools))]
                self.assertEqual([sorted(words) for gap, words in pools], read)

    def test_at_most_twice_as_many_as_needed_where_the_reach_is_wide(self):
        twice = 0
        for seed in range(150):
            rows, longs = rows_by_chance(seed, 120, 1 + seed % 3, 2 + seed % 4)
            unlike = len({row[2] for row in rows if is_great(row)})
            for wide in (22 + 4 * unlike, 23 + 4 * unlike, 30 + 4 * unlike):
                for back in (0, 1, 5, wide // 2, wide - 9, wide - 6):
                    reach = (back, wide - back)
                    told, needed = len(pools_for(rows, longs, reach)[0]), len(needed_rows(rows, longs, reach))
                    self.assertTrue(needed <= told <= 2 * needed, (rows, longs, reach))
                    twice += told > needed
        # The bound is no idle one: more than needed are told now and then.
        self.assertGreater(twice, 100)


class TheAskersOwnTest(unittest.TestCase):
    def test_nothing_is_changed_and_answers_are_the_askers_own(self):
        for rows, longs, reach in (([], [], (0, 6)), (FOUR, [], (4, 6)), (NILS, [1, 2], (0, 8)), (GOES, [1], (4, 6))):
            kept = copy.deepcopy((rows, longs, reach))
            told = pools_for(rows, longs, reach)
            right = copy.deepcopy(told)
            found = list(lists_in(told)) + [rows, longs] + list(lists_in(pools_for(rows, longs, reach)))
            self.assertEqual(len({id(one) for one in found}), len(found))
            told[0].append((7, (100,)))
            told[1].append(5)
            self.assertEqual(pools_for(rows, longs, reach), right)
            self.assertEqual((rows, longs, reach), kept)

    def test_later_changes_of_what_was_handed_in(self):
        rows, longs = list(NILS), [1]
        told = pools_for(rows, longs, (0, 8))
        rows.clear()
        longs.clear()
        self.assertEqual(told, ([(3, (1000,))], [0]))

    def test_kinds(self):
        pools, uses = told = pools_for(FOUR, [], (4, 6))
        self.assertEqual((type(told), type(pools), type(uses)), (tuple, list, list))
        for pool in pools:
            self.assertEqual([type(part) for part in pool], [int, tuple])

    def test_arguments_are_as_the_interface_has_them(self):
        self.assertEqual(list(inspect.signature(module.pools_for).parameters), ["rows", "longs", "reach"])


if __name__ == "__main__":
    unittest.main()
