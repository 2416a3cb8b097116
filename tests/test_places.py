"""Tests of nearpool.places: points [7] and [8], and what [2] and [3] say of them."""

import copy
import inspect
import itertools
import unittest

from nearpool import places as module
from nearpool.places import is_plan, placed
from things import ODD_THINGS, TOP, changed, is_great, lists_in, placed_in_words, rows_by_chance

ROWS = [("set", 0, 5), ("set", 1, 1000), ("tell", 1), ("go", 0), ("tell", 0)]


def sizes_at_gaps(many, seed):
    """How many words a pool at each gap has, 0 where there is none: each way of few rows, some of many."""
    if many < 4:
        return itertools.product((0, 1, 2), repeat=many + 1)
    return [[(seed * 7 + gap * gap + shift) % 5 % 3 for gap in range(many + 1)] for shift in range(5)]


class PlacedTest(unittest.TestCase):
    def tells(self, rows, longs, pools, right):
        told = placed(rows, longs, pools)
        self.assertEqual(repr(told), repr(right), (rows, longs, pools))

    def test_no_row(self):
        self.tells([], [], [], ([], [], 0))
        self.tells([], [], [(0, (100,))], ([], [4], 6))
        self.tells([], [], [(0, (100, 101, 102))], ([], [4], 10))

    def test_no_pool(self):
        self.tells(ROWS, [], [], ([0, 1, 3, 4, 5], [], 6))
        self.tells(ROWS, [3], [], ([0, 1, 3, 4, 6], [], 7))

    def test_sizes_of_each_form(self):
        rows = [
            ("set", 0, 99), ("set", 0, 100), ("sum", 0, 1), ("less", 0, 1), ("tell", 0), ("go", 8), ("nil", 0, 8),
            ("stop",), ("tell", 0),
        ]
        self.tells(rows, [], [], ([0, 1, 3, 4, 5, 6, 7, 8, 9], [], 10))
        self.tells(rows, [5], [], ([0, 1, 3, 4, 5, 6, 8, 9, 10], [], 11))
        self.tells(rows, [6], [], ([0, 1, 3, 4, 5, 6, 7, 9, 10], [], 11))
        self.tells(rows, [5, 6], [], ([0, 1, 3, 4, 5, 6, 8, 10, 11], [], 12))

    def test_the_first_gap(self):
        # Over 0 and 1, pad 2, head 3.
        self.tells(ROWS, [], [(0, (1000,))], ([6, 7, 9, 10, 11], [4], 12))
        self.tells(ROWS, [], [(0, (1000, 100))], ([8, 9, 11, 12, 13], [4], 14))

    def test_the_first_gap_whatever_the_last_row_is(self):
        for row in [("go", 0), ("stop",), ("tell", 0)]:
            self.tells([row], [], [(0, (1000,))], ([6], [4], 7))

    def test_a_gap_behind_a_row_that_falls(self):
        # Over 3 and 4, no pad, head 5.
        self.tells(ROWS, [], [(2, (1000, 2000))], ([0, 1, 10, 11, 12], [6], 13))
        # Over 1 and 2, no pad, head 3.
        self.tells(ROWS, [], [(1, (1000,))], ([0, 6, 8, 9, 10], [4], 11))
        # Over 4 and 5, pad 6, head 7.
        self.tells(ROWS, [], [(3, (1000,))], ([0, 1, 3, 10, 11], [8], 12))

    def test_a_gap_behind_a_row_that_does_not_fall(self):
        # No over, no pad, head 5.
        self.tells(ROWS, [], [(4, (1000,))], ([0, 1, 3, 4, 8], [6], 9))
        # The go has 4 and 5; pad 6, head 7.
        self.tells(ROWS, [3], [(4, (1000,))], ([0, 1, 3, 4, 10], [8], 11))

    def test_the_last_gap(self):
        # Over 6 and 7, pad 8, head 9.
        self.tells(ROWS, [], [(5, (1000,))], ([0, 1, 3, 4, 5], [10], 12))
        self.tells([("stop",)], [], [(1, (1000,))], ([0], [2], 4))
        self.tells([("stop",), ("stop",)], [], [(2, (1000,))], ([0, 1], [4], 6))
        self.tells([("go", 0)], [], [(1, (1000,))], ([0], [2], 4))
        self.tells([("go", 0)], [0], [(1, (1000,))], ([0], [4], 6))
        self.tells([("nil", 0, 1)], [], [(1, (1000,))], ([0], [4], 6))
        self.tells([("nil", 0, 1)], [0], [(1, (1000,))], ([0], [6], 8))

    def test_which_rows_fall(self):
        for row in [("set", 0, 9), ("sum", 0, 0), ("less", 0, 0), ("tell", 0), ("nil", 0, 0)]:
            self.tells([row], [], [(1, (1000,))], ([0], [4], 6))
        self.tells([("set", 0, 1000)], [], [(1, (1000,))], ([0], [6], 8))
        for row in [("go", 1), ("stop",)]:
            self.tells([row], [], [(1, (1000,))], ([0], [2], 4))

    def test_several(self):
        pools = [(0, (100,)), (4, (200, 300)), (5, (400,))]
        self.tells(ROWS, [], pools, ([6, 7, 9, 10, 16], [4, 12, 20], 22))
        # The go has 10 and 11; pad 12, head 13, words 14 to 17; row 4 at 18; over 19 and 20, head 21.
        self.tells(ROWS, [3], pools, ([6, 7, 9, 10, 18], [4, 14, 22], 24))

    def test_a_pool_at_every_gap(self):
        pools = [(gap, (100 + gap,)) for gap in range(3)]
        self.tells([("stop",), ("tell", 0)], [], pools, ([6, 10], [4, 8, 14], 16))

    def test_a_hundred_words(self):
        numbers = tuple(range(100, 200))
        self.tells([("stop",), ("stop",)], [], [(1, numbers)], ([0, 202], [2], 203))

    def test_against_cells_laid_one_by_one(self):
        for seed in range(60):
            rows, longs = rows_by_chance(seed, seed % 9, 3, 4)
            for sizes in sizes_at_gaps(len(rows), seed):
                pools = [(gap, tuple(range(100, 100 + size))) for gap, size in enumerate(sizes) if size > 0]
                self.tells(rows, longs, pools, placed_in_words(rows, longs, pools))

    def test_words_are_at_even_places(self):
        for seed in range(60):
            rows, longs = rows_by_chance(seed, 30, 3, 4)
            places, begins, end = placed(rows, longs, [(gap, (100,)) for gap in range(seed % 3, 31, 1 + seed % 4)])
            self.assertEqual([begin % 2 for begin in begins], [0] * len(begins))

    def test_the_most_rows(self):
        rows = [("set", 0, 1000), ("nil", 0, 0)] * 60
        longs = list(range(1, 120, 2))
        places, begins, end = placed(rows, longs, [])
        self.assertEqual(places, list(range(0, 240, 2)))
        self.assertEqual((begins, end), ([], 240))


class PlacedIsTheAskersOwnTest(unittest.TestCase):
    def test_lists_of_their_own(self):
        for rows, longs, pools in (([], [], []), (ROWS, [3], []), (ROWS, [], [(0, (100,)), (5, (100,))])):
            kept = copy.deepcopy((rows, longs, pools))
            told = placed(rows, longs, pools)
            right = copy.deepcopy(told)
            found = list(lists_in(told)) + [rows, longs, pools] + list(lists_in(placed(rows, longs, pools)))
            self.assertEqual(len({id(one) for one in found}), len(found))
            self.assertEqual((type(told), type(told[0]), type(told[1]), type(told[2])), (tuple, list, list, int))
            told[0].append(77)
            told[1].append(78)
            self.assertEqual(placed(rows, longs, pools), right)
            self.assertEqual((rows, longs, pools), kept)


def is_number(thing):
    return isinstance(thing, int) and not isinstance(thing, bool)


def is_plan_in_words(rows, longs, reach, thing):
    """Whether it is a plan, by the words of [7] and [8], with places from cells laid one by one."""
    if type(thing) is not tuple or len(thing) != 2 or [type(part) for part in thing] != [list, list]:
        return False
    pools, uses = thing
    for pool in pools:
        if type(pool) is not tuple or len(pool) != 2 or not is_number(pool[0]) or type(pool[1]) is not tuple:
            return False
        if pool[0] < 0 or pool[0] > len(rows) or len(pool[1]) < 1 or len(pool[1]) > 100:
            return False
        if any(not is_number(number) or number < 100 or number > TOP for number in pool[1]):
            return False
        if any(one == other for one, other in itertools.combinations(pool[1], 2)):
            return False
    gaps = [gap for gap, numbers in pools]
    if any(gaps[at] >= gaps[at + 1] for at in range(len(gaps) - 1)):
        return False
    greats = [at for at, row in enumerate(rows) if is_great(row)]
    if len(uses) != len(greats) or any(not is_number(use) or not 0 <= use < len(pools) for use in uses):
        return False
    places, begins, end = placed_in_words(rows, longs, pools)
    for at, use in zip(greats, uses):
        step = begins[use] - places[at]
        if rows[at][2] not in pools[use][1] or step > reach[1] or step < -reach[0]:
            return False
    return True


TWO = [("set", 0, 1000), ("tell", 0), ("set", 1, 2000), ("go", 0)]
# Rows, longs, a reach and a plan that just reaches by it: worked out by hand.
PLANS = [
    ([], [], (0, 6), ([], [])),
    ([], [], (0, 6), ([(0, (100, TOP))], [])),
    ([("stop",)], [], (0, 6), ([(0, (100,)), (1, (100,))], [])),
    # The row at 1, over 3 and 4, head 5, word 6.
    (ROWS, [], (0, 6), ([(2, (1000,))], [0])),
    # The row at 1, the first word at 10.
    (ROWS, [], (0, 9), ([(5, (1000,))], [0])),
    # The row at 1, the go at 4 and 5, pad 6, head 7, word 8.
    (ROWS, [3], (0, 7), ([(4, (1000,))], [0])),
    # The first word at 4, the row at 7, and at 9.
    (ROWS, [], (3, 6), ([(0, (1000,))], [0])),
    (ROWS, [], (5, 6), ([(0, (999, 1000))], [0])),
    # Rows at 0 and 3, the go at 5, pad 6, head 7, first word 8.
    (TWO, [], (0, 8), ([(4, (1000, 2000))], [0, 0])),
    # Row 0 at 0; over 3 and 4, head 5, words 6 to 9; row 2 at 10.
    (TWO, [], (4, 6), ([(2, (2000, 1000))], [0, 0])),
    # The first word at 4, row 0 at 6; row 2 at 9, the go at 11, pad 12, head 13, word 14.
    (TWO, [], (2, 6), ([(0, (1000,)), (4, (2000,))], [0, 1])),
]


class IsPlanTest(unittest.TestCase):
    def holds(self, rows, longs, reach, thing, right):
        self.assertIs(is_plan(rows, longs, reach, thing), right, (rows, longs, reach, thing))

    def test_right_ones(self):
        for rows, longs, reach, plan in PLANS:
            self.holds(rows, longs, reach, plan, True)
            self.holds(rows, longs, (4999, 4999), plan, True)

    def test_reaches_one_too_small(self):
        self.holds(ROWS, [], (0, 8), ([(5, (1000,))], [0]), False)
        self.holds(ROWS, [], (4999, 8), ([(5, (1000,))], [0]), False)
        self.holds(ROWS, [3], (0, 6), ([(4, (1000,))], [0]), False)
        self.holds(ROWS, [], (2, 6), ([(0, (1000,))], [0]), False)
        self.holds(ROWS, [], (2, 4999), ([(0, (1000,))], [0]), False)
        self.holds(ROWS, [], (4, 6), ([(0, (999, 1000))], [0]), False)
        self.holds(TWO, [], (0, 7), ([(4, (1000, 2000))], [0, 0]), False)
        self.holds(TWO, [], (3, 6), ([(2, (2000, 1000))], [0, 0]), False)
        self.holds(TWO, [], (1, 6), ([(0, (1000,)), (4, (2000,))], [0, 1]), False)

    def test_a_pool_that_has_not_the_number(self):
        wide = (4999, 4999)
        self.holds(ROWS, [], wide, ([(2, (1001,))], [0]), False)
        self.holds(ROWS, [], wide, ([(2, (999, 1001, 100))], [0]), False)
        self.holds(TWO, [], wide, ([(0, (1000,)), (4, (2000,))], [1, 0]), False)
        self.holds(TWO, [], wide, ([(0, (1000,)), (4, (2000,))], [0, 0]), False)
        self.holds(TWO, [], wide, ([(0, (1000, 2000)), (4, (2000, 1000))], [1, 0]), True)

    def test_a_pool_may_have_others_and_no_reader(self):
        self.holds(ROWS, [], (4999, 4999), ([(0, (5000,)), (2, (100, 1000, TOP)), (5, (1000,))], [1]), True)
        self.holds(ROWS, [], (4999, 4999), ([(0, (5000,)), (2, (100, 1000, TOP)), (5, (1000,))], [2]), True)
        self.holds(ROWS, [], (4999, 4999), ([(0, (5000,)), (2, (100, 1000, TOP)), (5, (1000,))], [0]), False)

    def test_gaps(self):
        wide = (4999, 4999)
        for gap in range(6):
            self.holds(ROWS, [], wide, ([(gap, (1000,))], [0]), True)
        for gap in (-1, 6, 10 ** 30, -10 ** 30, True, None, "2", (2,), [2]):
            self.holds(ROWS, [], wide, ([(gap, (1000,))], [0]), False)
        self.holds(ROWS, [], wide, ([(2, (1000,)), (2, (1001,))], [0]), False)
        self.holds(ROWS, [], wide, ([(3, (1000,)), (2, (1001,))], [0]), False)
        self.holds(ROWS, [], wide, ([(1, (1000,)), (4, (7000,)), (3, (1001,))], [0]), False)

    def test_numbers(self):
        wide = (4999, 4999)
        for number in (100, 101, TOP):
            self.holds([], [], wide, ([(0, (number,))], []), True)
        for number in (99, 0, -1, -100, TOP + 1, 10 ** 30, True, False, None, "100", (100,), [100], (), []):
            self.holds([], [], wide, ([(0, (number,))], []), False)
            self.holds([], [], wide, ([(0, (500, number))], []), False)
            self.holds([], [], wide, ([(0, (number, 500))], []), False)
        self.holds([], [], wide, ([(0, (500, 500))], []), False)
        self.holds([], [], wide, ([(0, (500, 600, 500))], []), False)
        self.holds([], [], wide, ([(0, ())], []), False)
        self.holds([], [], wide, ([(0, [500])], []), False)
        self.holds([], [], wide, ([(0, tuple(range(100, 200)))], []), True)
        self.holds([], [], wide, ([(0, tuple(range(100, 201)))], []), False)
        self.holds([], [], wide, ([(0, 500)], []), False)
        self.holds([], [], wide, ([(0, "500")], []), False)

    def test_uses(self):
        wide = (4999, 4999)
        both = [(0, (1000,)), (2, (1000,))]
        for uses in ([0], [1]):
            self.holds(ROWS, [], wide, (both, uses), True)
        for uses in ([], [0, 0], [2], [-1], [-2], [True], [False], [None], ["0"], [[0]], [(0,)], (0,), 0, None, "0"):
            self.holds(ROWS, [], wide, (both, uses), False)
        self.holds(ROWS, [], wide, ([], []), False)
        self.holds(ROWS, [], wide, ([], [0]), False)
        self.holds([], [], wide, ([(0, (100,))], [0]), False)

    def test_other_kinds(self):
        for rows, longs, reach, plan in PLANS:
            pools, uses = plan
            for thing in ODD_THINGS:
                self.holds(rows, longs, reach, thing, False)
                self.holds(rows, longs, reach, ([thing], uses), False)
                for whole in ((thing, uses), (pools, thing), (pools, [thing]), ([(0, thing)], uses)):
                    self.holds(rows, longs, reach, whole, is_plan_in_words(rows, longs, reach, whole))
            self.holds(rows, longs, reach, list(plan), False)
            self.holds(rows, longs, reach, plan + ([],), False)
            self.holds(rows, longs, reach, plan[:1], False)
            self.holds(rows, longs, reach, (tuple(pools), uses), False)
            self.holds(rows, longs, reach, (pools, tuple(uses)), False)

    def test_each_plan_with_one_part_changed(self):
        right, wrong = 0, 0
        for rows, longs, reach, plan in PLANS:
            for thing in changed(plan):
                told = is_plan_in_words(rows, longs, reach, thing)
                self.holds(rows, longs, reach, thing, told)
                right, wrong = right + told, wrong + (not told)
        # Both come, else the test would show little.
        self.assertGreater(right, 20)
        self.assertGreater(wrong, 1000)

    def test_each_small_plan_by_each_small_reach(self):
        for seed in range(12):
            rows, longs = rows_by_chance(seed, 3, 2, 6)
            greats = [at for at, row in enumerate(rows) if is_great(row)]
            numbers = tuple({rows[at][2]: True for at in greats}) or (100,)
            for size in (1, 2):
                for gaps in itertools.combinations(range(4), size):
                    for uses in itertools.product(range(size), repeat=len(greats)):
                        plan = ([(gap, numbers) for gap in gaps], list(uses))
                        for reach in itertools.product((0, 1, 2, 3, 5, 8, 12), (6, 7, 8, 9, 11, 14)):
                            self.holds(rows, longs, reach, plan, is_plan_in_words(rows, longs, reach, plan))

    def test_the_farthest_reach(self):
        rows = [("set", 0, 100)] + [("tell", 0)] * 119
        pools = [(gap, tuple(range(100, 200))) for gap in range(1, 121)]
        # Some pools stand nearer than the reach, some farther.
        begins = placed_in_words(rows, [], pools)[1]
        for use, begin in enumerate(begins):
            self.holds(rows, [], (0, 4999), (pools, [use]), begin <= 4999)
            self.holds(rows, [], (0, 4998), (pools, [use]), begin <= 4998)
        self.assertTrue(begins[0] == 6 and begins[-1] > 4999)

    def test_nothing_is_changed_and_the_same_is_told(self):
        for rows, longs, reach, plan in PLANS:
            kept = copy.deepcopy((rows, longs, reach, plan))
            for thing in [plan] + ODD_THINGS:
                self.assertIs(is_plan(rows, longs, reach, thing), is_plan(rows, longs, reach, thing))
            self.assertEqual((rows, longs, reach, plan), kept)

    def test_arguments_are_as_the_interface_has_them(self):
        for name, arguments in (
            ("placed", ["rows", "longs", "pools"]), ("is_plan", ["rows", "longs", "reach", "thing"]),
        ):
            self.assertEqual(list(inspect.signature(getattr(module, name)).parameters), arguments)


if __name__ == "__main__":
    unittest.main()
