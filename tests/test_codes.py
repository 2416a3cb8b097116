"""Tests of nearpool.codes: point [6], and what [2] and [3] say of it."""

import copy
import inspect
import unittest

from nearpool import codes as module
from nearpool.codes import row_cells, seen_at
from things import TOP, lists_in

REGISTERS = (0, 1, 2, 3, 4)

# A row, place, long and goal; its cells; what is seen there: worked out by hand from [6].
WRITTEN = [
    (("stop",), 0, False, None, [0], ("stop",)),
    (("stop",), 977, False, None, [0], ("stop",)),
    (("set", 0, 0), 3, False, None, [1000], ("set", 0, 0)),
    (("set", 0, 99), 3, False, None, [1099], ("set", 0, 99)),
    (("set", 1, 0), 3, False, None, [1100], ("set", 1, 0)),
    (("set", 2, 7), 3, False, None, [1207], ("set", 2, 7)),
    (("set", 4, 99), 3, False, None, [1499], ("set", 4, 99)),
    (("sum", 0, 0), 1, False, None, [2000], ("sum", 0, 0)),
    (("sum", 0, 4), 1, False, None, [2004], ("sum", 0, 4)),
    (("sum", 1, 3), 1, False, None, [2013], ("sum", 1, 3)),
    (("sum", 4, 0), 1, False, None, [2040], ("sum", 4, 0)),
    (("sum", 4, 4), 1, False, None, [2044], ("sum", 4, 4)),
    (("less", 0, 0), 1, False, None, [3000], ("less", 0, 0)),
    (("less", 3, 1), 1, False, None, [3031], ("less", 3, 1)),
    (("less", 4, 4), 1, False, None, [3044], ("less", 4, 4)),
    (("tell", 0), 8, False, None, [4000], ("tell", 0)),
    (("tell", 4), 8, False, None, [4004], ("tell", 4)),
    # A pool ahead of the row's place, behind it, at it; the farthest that cells can say.
    (("set", 3, 100), 10, False, (20, 7), [5307, 5010], ("great", 3, 20, 7)),
    (("set", 0, TOP), 20, False, (10, 0), [5000, 4990], ("great", 0, 10, 0)),
    (("set", 1, 5000), 30, False, (30, 99), [5199, 5000], ("great", 1, 30, 99)),
    (("set", 4, 5000), 0, False, (4999, 99), [5499, 9999], ("great", 4, 4999, 99)),
    (("set", 2, 5000), 4999, False, (0, 1), [5201, 1], ("great", 2, 0, 1)),
    (("set", 0, 5000), 5000, False, (0, 50), [5050, 0], ("great", 0, 0, 50)),
    (("set", 0, 5000), 0, False, (2, 0), [5000, 5002], ("great", 0, 2, 0)),
    # The row's own goal counts rows, the cells' goal is a place: so they differ here.
    (("go", 77), 500, False, 500, [6500], ("go", 500, False)),
    (("go", 77), 500, False, 1, [6001], ("go", 1, False)),
    (("go", 77), 500, False, 999, [6999], ("go", 999, False)),
    (("go", 77), 0, False, 499, [6999], ("go", 499, False)),
    (("go", 77), 499, False, 0, [6001], ("go", 0, False)),
    (("go", 77), 5, False, 4, [6499], ("go", 4, False)),
    (("go", 77), 500, True, 501, [7000, 501], ("go", 501, True)),
    (("go", 77), 500, True, 0, [7000, 0], ("go", 0, True)),
    (("go", 77), 500, True, 9999, [7000, 9999], ("go", 9999, True)),
    (("nil", 0, 77), 100, False, 100, [8100], ("nil", 0, 100, False)),
    (("nil", 0, 77), 100, False, 1, [8001], ("nil", 0, 1, False)),
    (("nil", 0, 77), 100, False, 199, [8199], ("nil", 0, 199, False)),
    (("nil", 1, 77), 100, False, 1, [8201], ("nil", 1, 1, False)),
    (("nil", 1, 77), 100, False, 102, [8302], ("nil", 1, 102, False)),
    (("nil", 3, 77), 100, False, 199, [8799], ("nil", 3, 199, False)),
    (("nil", 4, 77), 100, False, 1, [8801], ("nil", 4, 1, False)),
    (("nil", 4, 77), 0, False, 99, [8999], ("nil", 4, 99, False)),
    (("nil", 0, 77), 100, True, 101, [9000, 101], ("nil", 0, 101, True)),
    (("nil", 4, 77), 100, True, 0, [9004, 0], ("nil", 4, 0, True)),
    (("nil", 2, 77), 100, True, 9999, [9002, 9999], ("nil", 2, 9999, True)),
]


def strictly(thing):
    """Its words, by which True and 1, and a list and a tuple, differ."""
    return repr(thing)


class RowCellsTest(unittest.TestCase):
    def test_each_form_at_the_ends_of_its_range(self):
        for row, place, long, goal, cells, seen in WRITTEN:
            with self.subTest(row=row, place=place, long=long, goal=goal):
                self.assertEqual(strictly(row_cells(row, place, long, goal)), strictly(cells))

    def test_all_short_jumps(self):
        for step in range(-499, 500):
            self.assertEqual(row_cells(("go", 0), 600, False, 600 + step), [6500 + step])
        for r in REGISTERS:
            for step in range(-99, 100):
                self.assertEqual(row_cells(("nil", r, 0), 600, False, 600 + step), [8100 + 200 * r + step])

    def test_a_great_row_whatever_its_number(self):
        for number in (100, 101, 9999, 10000, TOP):
            self.assertEqual(row_cells(("set", 4, number), 12, False, (6, 3)), [5403, 4994])

    def test_a_new_list_each_time_and_nothing_changed(self):
        for row, place, long, goal, cells, seen in WRITTEN:
            kept = copy.deepcopy((row, goal))
            told = row_cells(row, place, long, goal)
            told.append(1)
            told[0] = 77
            self.assertEqual(row_cells(row, place, long, goal), cells)
            self.assertEqual((row, goal), kept)


def written_in_one(place):
    """All that [6] has written in one cell at a place, by its cell."""
    written = {0: ("stop",), 7002: ("pad",)}
    written.update({6500 + step: ("go", place + step, False) for step in range(-499, 500)})
    for r in REGISTERS:
        written[4000 + r] = ("tell", r)
        written.update({2000 + 10 * r + s: ("sum", r, s) for s in REGISTERS})
        written.update({3000 + 10 * r + s: ("less", r, s) for s in REGISTERS})
        written.update({1000 + 100 * r + n: ("set", r, n) for n in range(100)})
        written.update({8100 + 200 * r + step: ("nil", r, place + step, False) for step in range(-99, 100)})
    return written


def written_in_two(place, second):
    """All that [6] has written in two cells at a place, by the first of them."""
    written = {7000: ("go", second, True), 7001: ("over", second)}
    for r in REGISTERS:
        written[9000 + r] = ("nil", r, second, True)
        written.update({5000 + 100 * r + k: ("great", r, place + second - 5000, k) for k in range(100)})
    return written


class SeenAtTest(unittest.TestCase):
    def sees(self, cells, place, right):
        self.assertEqual(strictly(seen_at(cells, place)), strictly(right), (cells[:4], place))

    def test_each_form_where_it_is_written(self):
        for row, place, long, goal, cells, seen in WRITTEN:
            behind = place + len(cells)
            with self.subTest(seen=seen):
                self.sees([7777] * place + cells, place, (seen, behind))
                self.sees([0] * place + cells + [0, 7001, 4], place, (seen, behind))

    def test_two_cells_cut_off(self):
        for row, place, long, goal, cells, seen in WRITTEN:
            if len(cells) == 2:
                self.sees([0] * place + cells[:1], place, None)

    def test_overs_and_pads(self):
        self.sees([7001, 6, 7002, 7101, 0, 100], 0, (("over", 6), 2))
        self.sees([7001, 6, 7002, 7101, 0, 100], 2, (("pad",), 3))
        self.sees([7001, 6, 7002, 7101, 0, 100], 3, (("pool", (100,)), 6))
        for goal in (0, 1, 500, 9999):
            self.sees([0, 7001, goal], 1, (("over", goal), 3))
        self.sees([0, 7001], 1, None)
        self.sees([7001], 0, None)
        self.sees([7002], 0, (("pad",), 1))

    def test_heads_of_one_and_a_hundred_words(self):
        self.sees([7101, 12, 3456], 0, (("pool", (123456,)), 3))
        self.sees([7101, 9999, 9999, 0], 0, (("pool", (TOP,)), 3))
        self.sees([0, 7102, 0, 100, 1, 0], 1, (("pool", (100, 10000)), 6))
        cells = [7200]
        for at in range(100):
            cells += [at, 9999 - at]
        numbers = tuple(at * 10000 + 9999 - at for at in range(100))
        self.sees(cells, 0, (("pool", numbers), 201))
        self.sees([0, 0] + cells + [0], 2, (("pool", numbers), 203))

    def test_words_that_no_plan_has(self):
        self.sees([7103, 0, 0, 0, 99, 0, 99], 0, (("pool", (0, 99, 99)), 7))

    def test_heads_that_are_none(self):
        for cell in (7100, 7201, 7202, 7003, 7099):
            self.sees([cell] + [0] * 300, 0, None)

    def test_pools_cut_off(self):
        for many in (1, 2, 3, 50, 100):
            for size in range(2 * many):
                self.sees([7100 + many] + [0] * size, 0, None)
                self.sees([0, 7100 + many] + [0] * size, 1, None)
            self.sees([7100 + many] + [0] * 2 * many, 0, (("pool", (0,) * many), 2 * many + 1))

    def test_places_below_the_first_and_beyond_the_last(self):
        self.sees([6001], 0, (("go", -499, False), 1))
        self.sees([6999], 0, (("go", 499, False), 1))
        self.sees([8001], 0, (("nil", 0, -99, False), 1))
        self.sees([8999], 0, (("nil", 4, 99, False), 1))
        self.sees([5000, 0], 0, (("great", 0, -5000, 0), 2))
        self.sees([5499, 9999], 0, (("great", 4, 4999, 99), 2))
        self.sees([0] * 40 + [5123, 1], 40, (("great", 1, -4959, 23), 42))

    def test_places_that_are_none_of_the_cells(self):
        for cells in ([], [0], [0, 0], [4000, 7000, 1], [7101, 0, 100]):
            for place in (-1, -2, -3, -len(cells), len(cells), len(cells) + 1, 1000, 10 ** 30, -10 ** 30):
                if place != 0 or not cells:
                    self.sees(cells, place, None)

    def test_cells_in_which_nothing_is_written(self):
        for cell in (
            1, 999, 1500, 1999, 2005, 2009, 2010 + 5, 2045, 2050, 2999, 3005, 3045, 3050, 3999, 4005, 4999, 5500, 5999,
            6000, 7003, 7100, 7201, 7999, 8000, 8200, 8400, 8600, 8800, 9005, 9999,
        ):
            self.sees([cell], 0, None)
            self.sees([cell] + [0] * 250, 0, None)
            self.sees([0, cell, 1, 1], 1, None)

    def test_every_cell_by_itself_and_with_one_behind(self):
        # No head has all its words here: even one of one word would need two cells behind it.
        for place, second in ((0, None), (3, 0), (300, 5000), (7, 9999)):
            one = written_in_one(place)
            two = {} if second is None else written_in_two(place, second)
            behind = [] if second is None else [second]
            for cell in range(10000):
                right = None
                if cell in one:
                    right = (one[cell], place + 1)
                elif cell in two:
                    right = (two[cell], place + 2)
                self.sees([4000] * place + [cell] + behind, place, right)

    def test_a_place_within_something_is_looked_at_by_itself(self):
        cells = [7000, 4001, 5000, 7002, 7101, 1207, 0]
        self.sees(cells, 1, (("tell", 1), 2))
        self.sees(cells, 3, (("pad",), 4))
        self.sees(cells, 5, (("set", 2, 7), 6))
        self.sees(cells, 6, (("stop",), 7))

    def test_nothing_handed_in_is_changed_and_the_same_is_told(self):
        cells = [5000, 5006, 7001, 8, 7002, 7101, 0, 100, 6490, 8120, 9000, 3]
        kept = list(cells)
        for place in range(-2, 15):
            self.assertEqual(seen_at(cells, place), seen_at(cells, place))
            self.assertEqual(list(lists_in(seen_at(cells, place))), [])
        self.assertEqual(cells, kept)

    def test_later_changes_of_the_cells(self):
        cells = [7101, 0, 100]
        told = seen_at(cells, 0)
        cells[2] = 500
        self.assertEqual(told, (("pool", (100,)), 3))
        self.assertEqual(seen_at(cells, 0), (("pool", (500,)), 3))

    def test_arguments_are_as_the_interface_has_them(self):
        for name, arguments in (("row_cells", ["row", "place", "long", "goal"]), ("seen_at", ["cells", "place"])):
            self.assertEqual(list(inspect.signature(getattr(module, name)).parameters), arguments)


if __name__ == "__main__":
    unittest.main()
