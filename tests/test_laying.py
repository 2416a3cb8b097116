"""Tests of nearpool.laying: point [13], and what [1] and [2] say of it."""

import copy
import inspect
import unittest

from nearpool import laying as module
from nearpool.codes import seen_at
from nearpool.growing import settled
from nearpool.laying import laid_cells, made
from nearpool.places import is_plan, placed
from things import TOP, cells_in_words, laying_by_chance, rows_by_chance

# Rows, longs, a plan, and the cells, worked out by hand from [6] and [7].
BY_HAND = [
    ([], [], ([], []), []),
    # A pool and no row: over, pad, head, word; the over goes to the end.
    ([], [], ([(0, (100,))], []), [7001, 6, 7002, 7101, 0, 100]),
    ([], [], ([(0, (TOP, 123456))], []), [7001, 8, 7002, 7102, 9999, 9999, 12, 3456]),
    ([("stop",)], [], ([], []), [0]),
    (
        [("set", 3, 99), ("sum", 1, 2), ("less", 4, 0), ("tell", 3), ("stop",)], [], ([], []),
        [1399, 2012, 3040, 4003, 0],
    ),
    # Short jumps: back, ahead, to itself, to the end.
    (
        [("go", 2), ("nil", 1, 0), ("nil", 2, 2), ("go", 1), ("go", 5)], [], ([], []),
        [6502, 8299, 8500, 6498, 6501],
    ),
    # The same, some of them long: places 0, 2, 3, 5, 6 and the end at 8.
    (
        [("go", 2), ("nil", 1, 0), ("nil", 2, 2), ("go", 1), ("go", 5)], [0, 2, 4], ([], []),
        [7000, 3, 8298, 9002, 3, 6497, 7000, 8],
    ),
    # The pool behind its row: over 2 and 3, pad 4, head 5.
    ([("set", 2, 1000)], [], ([(1, (1000,))], [0]), [5200, 5006, 7001, 8, 7002, 7101, 0, 1000]),
    # The pool ahead of its row, at the first gap; the row reads its third word.
    (
        [("set", 2, 70000)], [], ([(0, (100, 200, 70000))], [0]),
        [7001, 10, 7002, 7103, 0, 100, 0, 200, 7, 0, 5202, 4994],
    ),
    # At the first gap an over stands, whatever the last row is; row 0 is gone to behind the pool.
    ([("go", 0)], [], ([(0, (100,))], []), [7001, 6, 7002, 7101, 0, 100, 6500]),
    ([("go", 0)], [0], ([(0, (100,))], []), [7001, 6, 7002, 7101, 0, 100, 7000, 6]),
    # Behind a go and behind a stop no over; with and without a pad.
    ([("go", 1)], [], ([(1, (100,))], []), [6504, 7101, 0, 100]),
    ([("go", 1)], [0], ([(1, (100,))], []), [7000, 6, 7002, 7101, 0, 100]),
    ([("stop",), ("tell", 0)], [], ([(1, (100,))], []), [0, 7101, 0, 100, 4000]),
    ([("tell", 0), ("stop",)], [], ([(2, (100,))], []), [4000, 0, 7002, 7101, 0, 100]),
    # Behind a row that falls an over; without and with a pad.
    ([("nil", 0, 1)], [], ([(1, (100,))], []), [8106, 7001, 6, 7101, 0, 100]),
    ([("nil", 0, 1)], [0], ([(1, (100,))], []), [9000, 8, 7001, 8, 7002, 7101, 0, 100]),
    # Two pools with like numbers, read from both sides: rows at 0, 8, 16 and 18.
    (
        [("set", 0, 1000), ("set", 1, 1000), ("set", 2, 1000), ("set", 3, 2000)], [],
        ([(1, (1000,)), (2, (2000, 1000))], [0, 0, 1, 1]),
        [
            5000, 5006, 7001, 8, 7002, 7101, 0, 1000, 5100, 4998,
            7001, 18, 7002, 7102, 0, 2000, 0, 1000, 5201, 4996, 5300, 4994,
        ],
    ),
    # A row may read another pool than the nearest one.
    (
        [("set", 0, 1000), ("set", 1, 1000)], [], ([(1, (1000,)), (2, (500, 1000))], [1, 0]),
        [5001, 5014, 7001, 8, 7002, 7101, 0, 1000, 5100, 4998, 7001, 18, 7002, 7102, 0, 500, 0, 1000],
    ),
    # A jump over a pool, and one back over it.
    (
        [("nil", 0, 2), ("go", 0), ("set", 0, 1000), ("go", 0)], [], ([(2, (1000,))], [0]),
        [8106, 6499, 7002, 7101, 0, 1000, 5000, 4998, 6492],
    ),
]


class LaidCellsTest(unittest.TestCase):
    def test_by_hand(self):
        for rows, longs, plan, cells in BY_HAND:
            with self.subTest(rows=rows, longs=longs, plan=plan):
                self.assertIs(is_plan(rows, longs, (4999, 4999), plan), True)
                self.assertEqual(repr(laid_cells(rows, longs, plan)), repr(cells))

    def test_a_hundred_words(self):
        numbers = tuple(range(9950, 10050))
        rows = [("stop",), ("set", 4, 10049), ("set", 1, 9950)]
        cells = laid_cells(rows, [], ([(1, numbers)], [0, 0]))
        self.assertEqual(cells[:4] + cells[-6:], [0, 7200, 0, 9950, 1, 49, 5499, 4800, 5100, 4798])
        self.assertEqual(cells[2:202], [half for number in numbers for half in divmod(number, 10000)])

    def test_the_farthest_short_jumps(self):
        # The head at 1, row 1 at 202, over 203 and 204, head 205, row 2 at 406, each further row one behind.
        pools = [(1, tuple(range(100, 200))), (2, tuple(range(200, 300)))]
        cells = laid_cells([("go", 95)] + [("tell", 0)] * 95, [], (pools, []))
        self.assertEqual((len(cells), cells[0]), (500, 6999))
        # Ahead of row 0 no pool, behind the stop the same two.
        cells = laid_cells([("stop",)] + [("tell", 0)] * 94 + [("go", 0)], [], (pools, []))
        self.assertEqual((len(cells), cells[-1]), (500, 6001))
        for r in range(5):
            cells = laid_cells([("nil", r, 99)] + [("tell", 0)] * 98, [], ([], []))
            self.assertEqual(cells[0], 8199 + 200 * r)
            cells = laid_cells([("tell", 0)] * 99 + [("nil", r, 0)], [], ([], []))
            self.assertEqual(cells[-1], 8001 + 200 * r)

    def test_against_the_words(self):
        kinds = set()
        for seed in range(300):
            rows, longs, plan = laying_by_chance(seed, seed % 41, 1 + seed % 5, seed % 6)
            self.assertIs(is_plan(rows, longs, (4999, 4999), plan), True)
            cells = laid_cells(rows, longs, plan)
            self.assertEqual(cells, cells_in_words(rows, longs, plan), (rows, longs, plan))
            self.assertTrue(all(type(cell) is int and 0 <= cell <= 9999 for cell in cells))
            kinds |= {gap == 0 for gap, numbers in plan[0]} | {gap - len(rows) for gap, numbers in plan[0]}
        self.assertTrue({True, False, 0} <= kinds)

    def test_all_stands_at_the_places_of_placed(self):
        for seed in range(100):
            rows, longs, plan = laying_by_chance(seed, 1 + seed % 60, 4, 4)
            cells = laid_cells(rows, longs, plan)
            places, begins, end = placed(rows, longs, plan[0])
            self.assertEqual(len(cells), end)
            for (gap, numbers), begin in zip(plan[0], begins):
                self.assertEqual(seen_at(cells, begin - 1), (("pool", numbers), begin + 2 * len(numbers)))
            for at, place in enumerate(places):
                word = "great" if rows[at][0] == "set" and rows[at][2] > 99 else rows[at][0]
                self.assertEqual(seen_at(cells, place)[0][0], word)
                if at in longs or word in ("go", "nil"):
                    goal = [*places, end][rows[at][-1]]
                    self.assertEqual(seen_at(cells, place)[0][-2:], (goal, at in longs))

    def test_each_great_row_reads_just_its_number(self):
        for seed in range(100):
            rows, longs, plan = laying_by_chance(seed, 1 + seed % 60, 4, 5)
            cells = laid_cells(rows, longs, plan)
            for row, place in zip(rows, placed(rows, longs, plan[0])[0]):
                if row[0] == "set" and row[2] > 99:
                    great, r, begin, at = seen_at(cells, place)[0]
                    self.assertEqual((great, r), ("great", row[1]))
                    self.assertEqual(cells[begin + 2 * at] * 10000 + cells[begin + 2 * at + 1], row[2])


class MadeTest(unittest.TestCase):
    def test_by_hand(self):
        rows = [("nil", 0, 2), ("set", 0, 1000), ("tell", 0)]
        for hop in (8, 9, 499):
            right = [8108, 5000, 5005, 7001, 8, 7101, 0, 1000, 4000]
            self.assertEqual(made(rows, (0, 6), hop), right)
        for hop in (0, 4, 7):
            right = [9000, 4, 5000, 5006, 4000, 7001, 10, 7101, 0, 1000]
            self.assertEqual(made(rows, (0, 6), hop), right)
        self.assertEqual(made([], (0, 6), 0), [])
        self.assertEqual(made([("go", 2), ("tell", 1)], (0, 6), 1), [7000, 3, 4001])
        self.assertEqual(made([("go", 2), ("tell", 1)], (0, 6), 2), [6502, 4001])

    def test_it_is_the_laying_of_what_has_settled(self):
        for seed in range(80):
            rows, longs = rows_by_chance(seed, 1 + seed, 1 + seed % 5, 1 + seed % 5)
            for reach, hop in (((0, 6), 0), ((8, 7), 12), ((60, 60), 99), ((4999, 4999), 499)):
                longs, plan = settled(rows, reach, hop)
                self.assertEqual(made(rows, reach, hop), cells_in_words(rows, longs, plan), (rows, reach, hop))

    def test_the_most_rows(self):
        rows = [("set", 0, 1000 + at) if at % 2 else ("nil", 1, 120 - at) for at in range(120)]
        for reach, hop in (((0, 6), 0), ((0, 6), 499), ((4999, 4999), 499), ((30, 30), 30)):
            cells = made(rows, reach, hop)
            self.assertEqual(cells, cells_in_words(rows, *settled(rows, reach, hop)))
            self.assertTrue(len(cells) <= 1000 and all(0 <= cell <= 9999 for cell in cells))


class TheAskersOwnTest(unittest.TestCase):
    def test_nothing_is_changed_and_answers_are_the_askers_own(self):
        for rows, longs, plan, cells in BY_HAND:
            kept = copy.deepcopy((rows, longs, plan))
            told = laid_cells(rows, longs, plan)
            told.append(7)
            told[0] = 5
            self.assertEqual(laid_cells(rows, longs, plan), cells)
            by_settled = made(rows, (6, 6), 9)
            right = list(by_settled)
            by_settled.append(7)
            self.assertEqual(made(rows, (6, 6), 9), right)
            self.assertEqual((rows, longs, plan), kept)

    def test_later_changes_of_what_was_handed_in(self):
        rows, longs, plan = [("set", 2, 1000)], [], ([(1, (1000,))], [0])
        told = laid_cells(rows, longs, plan)
        for one in (rows, longs, plan[0], plan[1]):
            one.clear()
        self.assertEqual(told, [5200, 5006, 7001, 8, 7002, 7101, 0, 1000])

    def test_arguments_are_as_the_interface_has_them(self):
        for name, arguments in (("laid_cells", ["rows", "longs", "plan"]), ("made", ["rows", "reach", "hop"])):
            self.assertEqual(list(inspect.signature(getattr(module, name)).parameters), arguments)


if __name__ == "__main__":
    unittest.main()
