"""Tests of nearpool.needed: point [10], and what [2] and [3] say of it."""

import copy
import inspect
import itertools
import unittest

from nearpool import needed as module
from nearpool.needed import needed_rows, shows_needed
from nearpool.places import is_plan
from things import ODD_THINGS, changed, is_great, placed_in_words, rows_by_chance

# Great rows at 0, 2, 4 and so on, each at twice its number.
TEN = [("set", at % 5, 1000) for at in range(10)]
# Great rows 1, 3, 4 and 6, at 1, 4, 6 and 9; at 1, 5, 7 and 10, or 11, where 2, or 2 and 5, are long.
MIXED = [
    ("tell", 0), ("set", 0, 100), ("go", 0), ("set", 1, 200), ("set", 2, 100), ("nil", 0, 7), ("set", 3, 300),
]


class NeededRowsTest(unittest.TestCase):
    def tells(self, rows, longs, reach, right):
        told = needed_rows(rows, longs, reach)
        self.assertEqual(repr(told), repr(right), (rows, longs, reach))
        self.assertIs(shows_needed(rows, longs, reach, told), True)

    def test_no_great_row(self):
        self.tells([], [], (0, 6), [])
        self.tells([("set", 0, 99), ("tell", 0), ("go", 0)], [2], (0, 6), [])

    def test_one(self):
        self.tells([("tell", 0), ("set", 0, 100)], [], (0, 6), [1])
        self.tells([("set", 0, 100)], [], (4999, 4999), [0])

    def test_each_first_one_that_is_farther(self):
        self.tells(TEN, [], (0, 6), [0, 4, 8])
        self.tells(TEN, [], (1, 6), [0, 4, 8])
        self.tells(TEN, [], (2, 6), [0, 5])
        self.tells(TEN, [], (0, 8), [0, 5])
        self.tells(TEN, [], (11, 6), [0, 9])
        self.tells(TEN, [], (9, 8), [0, 9])
        self.tells(TEN, [], (12, 6), [0])
        self.tells(TEN, [], (4999, 4999), [0])

    def test_long_jumps_count(self):
        self.tells(MIXED, [], (0, 6), [1, 6])
        self.tells(MIXED, [], (0, 7), [1, 6])
        self.tells(MIXED, [], (0, 8), [1])
        self.tells(MIXED, [2], (0, 8), [1, 6])
        self.tells(MIXED, [2], (0, 9), [1])
        self.tells(MIXED, [2, 5], (0, 9), [1, 6])
        self.tells(MIXED, [2, 5], (3, 6), [1, 6])
        self.tells(MIXED, [2, 5], (4, 6), [1])

    def test_from_the_one_told_last(self):
        # Great rows 0, 6, 12, 13 and 19, at 0, 7, 14, 16 and 23.
        rows = [("set", 0, 100)] + [("tell", 0)] * 5 + [("set", 0, 100)] + [("tell", 0)] * 5
        rows += [("set", 0, 100)] * 2 + [("tell", 0)] * 5 + [("set", 0, 100)]
        self.tells(rows, [], (0, 6), [0, 6, 12, 19])
        self.tells(rows, [], (1, 6), [0, 12, 19])
        self.tells(rows, [], (0, 8), [0, 12, 19])
        self.tells(rows, [], (3, 6), [0, 12])
        self.tells(rows, [], (8, 6), [0, 13])
        self.tells(rows, [], (7, 8), [0, 13])
        self.tells(rows, [], (8, 8), [0, 19])

    def test_the_most_rows(self):
        rows = [("set", 0, 1000), ("nil", 0, 0)] * 60
        # Great rows at each third place; each fourth with longs.
        self.tells(rows, [], (0, 6), list(range(0, 120, 6)))
        self.tells(rows, list(range(1, 120, 2)), (0, 6), list(range(0, 120, 4)))

    def test_in_words(self):
        for seed in range(60):
            rows, longs = rows_by_chance(seed, seed * 2, 2, 4)
            places = placed_in_words(rows, longs, [])[0]
            for wide in (6, 7, 8, 9, 20, 55):
                right, last = [], None
                for at, row in enumerate(rows):
                    if is_great(row) and (last is None or places[at] > last + wide):
                        right, last = right + [at], places[at]
                for back in (0, 1, wide - 6):
                    if wide - back >= 6:
                        self.tells(rows, longs, (back, wide - back), right)

    def test_no_two_of_them_reach_one_pool(self):
        for seed in range(40):
            rows, longs = rows_by_chance(seed, 12, 1, 6)
            for reach in ((0, 6), (2, 6), (4, 7)):
                needed = needed_rows(rows, longs, reach)
                greats = [at for at, row in enumerate(rows) if is_great(row)]
                for gap in range(13):
                    pools = [(gap, tuple({rows[at][2]: True for at in greats}))] if greats else []
                    if len(needed) > 1:
                        self.assertIs(is_plan(rows, longs, reach, (pools, [0] * len(greats))), False)


def shows_in_words(rows, longs, reach, thing):
    """Whether it shows what is needed, by the words of [10]."""
    if type(thing) is not list or any(type(at) is not int for at in thing):
        return False
    if any(not 0 <= at < len(rows) or not is_great(rows[at]) for at in thing):
        return False
    places = placed_in_words(rows, longs, [])[0]
    return all(one < other and places[other] > places[one] + sum(reach) for one, other in itertools.pairwise(thing))


class ShowsNeededTest(unittest.TestCase):
    def shows(self, rows, longs, reach, thing, right):
        self.assertIs(shows_needed(rows, longs, reach, thing), right, (rows, longs, reach, thing))

    def test_right_ones(self):
        for thing in ([], [0], [9], [0, 4], [0, 9], [1, 5, 9], [0, 4, 8], [0, 5, 9], [1, 6]):
            self.shows(TEN, [], (0, 6), thing, True)
        for thing in ([], [1], [3], [4], [6], [1, 6]):
            self.shows(MIXED, [], (0, 6), thing, True)
        self.shows([], [], (0, 6), [], True)

    def test_too_near(self):
        for thing in ([0, 3], [0, 4, 7], [1, 4], [0, 1], [0, 0], [4, 4], [0, 4, 8, 9], [0, 4, 4]):
            self.shows(TEN, [], (0, 6), thing, False)
        self.shows(TEN, [], (2, 6), [0, 4], False)
        self.shows(TEN, [], (1, 6), [0, 4], True)
        self.shows(TEN, [], (0, 8), [0, 4], False)
        self.shows(TEN, [], (0, 7), [0, 4], True)
        self.shows(MIXED, [], (0, 8), [1, 6], False)
        self.shows(MIXED, [2], (0, 8), [1, 6], True)

    def test_not_rising(self):
        for thing in ([4, 0], [8, 4, 0], [0, 8, 4], [9, 9], [5, 1, 9]):
            self.shows(TEN, [], (0, 6), thing, False)

    def test_no_numbers_of_great_rows(self):
        for thing in ([0], [2], [5], [7], [8], [-1], [-6], [1, 7], [0, 6], [1, 5], [2, 6], [10 ** 30], [-10 ** 30]):
            self.shows(MIXED, [], (0, 6), thing, False)
        self.shows([], [], (0, 6), [0], False)
        self.shows(TEN, [], (0, 6), [10], False)
        self.shows(TEN, [], (0, 6), [-1], False)
        self.shows(TEN, [], (0, 6), [0, 4, 10], False)

    def test_truths_and_other_kinds(self):
        for thing in (
            [False], [True], [False, 4], [0, True], [True, 5], (), (0,), (0, 4), [(0,)], [[0]], [None], ["0"], "0", 0,
            None, True, False, [0, None], [0, [4]], [0, (4,)], [[], 4], "", {"0": 1}, [0, "4"],
        ):
            self.shows(TEN, [], (0, 6), thing, False)
        for thing in ODD_THINGS:
            self.shows(TEN, [], (0, 6), thing, thing in ([], [0]) and isinstance(thing, list))
            self.shows(TEN, [], (0, 6), [thing], type(thing) is int and 0 <= thing < 10)
            self.shows(TEN, [], (0, 6), [0, thing], type(thing) is int and 4 <= thing < 10)

    def test_each_right_one_with_one_part_changed(self):
        seen = set()
        for rows, longs, reach in ((TEN, [], (0, 6)), (TEN, [], (2, 6)), (MIXED, [], (0, 6)), (MIXED, [2, 5], (1, 6))):
            for thing in itertools.chain(changed(needed_rows(rows, longs, reach)), changed([6]), changed([])):
                right = shows_in_words(rows, longs, reach, thing)
                self.shows(rows, longs, reach, thing, right)
                seen.add(right)
        self.assertEqual(seen, {True, False})

    def test_each_choice_of_rows(self):
        for seed in range(12):
            rows, longs = rows_by_chance(seed, 8, 2, 6)
            for size in range(4):
                for thing in itertools.product(range(-1, 9), repeat=size):
                    self.shows(rows, longs, (0, 6), list(thing), shows_in_words(rows, longs, (0, 6), list(thing)))


class TheAskersOwnTest(unittest.TestCase):
    def test_nothing_is_changed_and_answers_are_the_askers_own(self):
        for rows, longs in (([], []), (TEN, []), (MIXED, [2, 5])):
            kept = copy.deepcopy((rows, longs))
            told = needed_rows(rows, longs, (0, 6))
            right = list(told)
            self.assertIs(type(told), list)
            told.append(77)
            self.assertEqual(needed_rows(rows, longs, (0, 6)), right)
            self.assertIsNot(needed_rows(rows, longs, (0, 6)), needed_rows(rows, longs, (0, 6)))
            for thing in [right] + ODD_THINGS:
                held = copy.deepcopy(thing)
                self.assertIs(shows_needed(rows, longs, (0, 6), thing), shows_needed(rows, longs, (0, 6), thing))
                self.assertEqual(thing, held)
            self.assertEqual((rows, longs), kept)

    def test_arguments_are_as_the_interface_has_them(self):
        for name, arguments in (
            ("needed_rows", ["rows", "longs", "reach"]), ("shows_needed", ["rows", "longs", "reach", "thing"]),
        ):
            self.assertEqual(list(inspect.signature(getattr(module, name)).parameters), arguments)


if __name__ == "__main__":
    unittest.main()
