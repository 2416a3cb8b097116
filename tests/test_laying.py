"""Tests of nearpool.laying: point [13], and what [1] and [2] say of it."""

import copy
import inspect
import unittest

from nearpool import laying as module
from nearpool.codes import seen_at
from nearpool.growing import settled
from nearpool.laying import laid_cells, made
from nearpool.places import is_plan, placed
from things import LAYINGS, cells_in_words, laying_by_chance, rows_by_chance


class LaidCellsTest(unittest.TestCase):
    def test_by_hand(self):
        for rows, longs, plan, cells in LAYINGS:
            with self.subTest(rows=rows, longs=longs, plan=plan):
                self.assertIs(is_plan(rows, longs, (4999, 4999), plan), True)
                self.assertEqual(repr(laid_cells(rows, longs, plan)), repr(cells))

    def test_a_hundred_words(self):
        numbers = tuple(range(9950, 10050))
        rows = [("stop",), ("set", 4, 10049), ("set", 1, 9950)]
        cells = laid_cells(rows, [], ([(1, numbers)], [0, 0]))
        self.assertEqual(cells[:4] + cells[-6:], [0, 7200, 0, 9950, 1, 49, 5499, 4800, 5100, 4798])
        self.assertEqual(cells[2:202], [half for number in numbers for half in divmod(number, 10000)])

    def test_the_farthest_short_jumps(self):
        # The head at 1, row 1 at 202, over 203 and 204, head 205, row 2 at 406, each further row one behind.
        pools = [(1, tuple(range(100, 200))), (2, tuple(range(200, 300)))]
        cells = laid_cells([("go", 95)] + [("tell", 0)] * 95, [], (pools, []))
        self.assertEqual((len(cells), cells[0]), (500, 6999))
        # Ahead of row 0 no pool, behind the stop the same two.
        cells = laid_cells([("stop",)] + [("tell", 0)] * 94 + [("go", 0)], [], (pools, []))
        self.assertEqual((len(cells), cells[-1]), (500, 6001))
        for r in range(5):
            cells = laid_cells([("nil", r, 99)] + [("tell", 0)] * 98, [], ([], []))
            self.assertEqual(cells[0], 8199 + 200 * r)
            cells = laid_cells([("tell", 0)] * 99 + [("nil", r, 0)], [], ([], []))
            self.assertEqual(cells[-1], 8001 + 200 * r)

    def test_against_the_words(self):
        kinds = set()
        for seed in range(300):
            rows, longs, plan = laying_by_chance(seed, seed % 41, 1 + seed % 5, seed % 6)
            self.assertIs(is_plan(rows, longs, (4999, 4999), plan), True)
            cells = laid_cells(rows, longs, plan)
            self.assertEqual(cells, cells_in_words(rows, longs, plan), (rows, longs, plan))
            self.assertTrue(all(type(cell) is int and 0 <= cell <= 9999 for cell in cells))
            kinds |= {gap == 0 for gap, numbers in plan[0]} | {gap - len(rows) for gap, numbers in plan[0]}
        self.assertTrue({True, False, 0} <= kinds)

    def test_all_stands_at_the_places_of_placed(self):
        for seed in range(100):
            rows, longs, plan = laying_by_chance(seed, 1 + seed % 60, 4, 4)
            cells = laid_cells(rows, longs, plan)
            places, begins, end = placed(rows, longs, plan[0])
            self.assertEqual(len(cells), end)
            for (gap, numbers), begin in zip(plan[0], begins):
                self.assertEqual(seen_at(cells, begin - 1), (("pool", numbers), begin + 2 * len(numbers)))
            for at, place in enumerate(places):
                word = "great" if rows[at][0] == "set" and rows[at][2] > 99 else rows[at][0]
                self.assertEqual(seen_at(cells, place)[0][0], word)
                if at in longs or word in ("go", "nil"):
                    goal = [*places, end][rows[at][-1]]
                    self.assertEqual(seen_at(cells, place)[0][-2:], (goal, at in longs))

    def test_each_great_row_reads_just_its_number(self):
        for seed in range(100):
            rows, longs, plan = laying_by_chance(seed, 1 + seed % 60, 4, 5)
            cells = laid_cells(rows, longs, plan)
            for row, place in zip(rows, placed(rows, longs, plan[0])[0]):
                if row[0] == "set" and row[2] > 99:
                    great, r, begin, at = seen_at(cells, place)[0]
                    self.assertEqual((great, r), ("great", row[1]))
                    self.assertEqual(cells[begin + 2 * at] * 10000 + cells[begin + 2 * at + 1], row[2])


class MadeTest(unittest.TestCase):
    def test_by_hand(self):
        rows = [("nil", 0, 2), ("set", 0, 1000), ("tell", 0)]
        for hop in (8, 9, 499):
            right = [8108, 5000, 5005, 7001, 8, 7101, 0, 1000, 4000]
            self.assertEqual(made(rows, (0, 6), hop), right)
        for hop in (0, 4, 7):
            right = [9000, 4, 5000, 5006, 4000, 7001, 10, 7101, 0, 1000]
            self.assertEqual(made(rows, (0, 6), hop), right)
        self.assertEqual(made([], (0, 6), 0), [])
        self.assertEqual(made([("go", 2), ("tell", 1)], (0, 6), 1), [7000, 3, 4001])
        self.assertEqual(made([("go", 2), ("tell", 1)], (0, 6), 2), [6502, 4001])

    def test_it_is_the_laying_of_what_has_settled(self):
        for seed in range(80):
            rows, longs = rows_by_chance(seed, 1 + seed, 1 + seed % 5, 1 + seed % 5)
            for reach, hop in (((0, 6), 0), ((8, 7), 12), ((60, 60), 99), ((4999, 4999), 499)):
                longs, plan = settled(rows, reach, hop)
                self.assertEqual(made(rows, reach, hop), cells_in_words(rows, longs, plan), (rows, reach, hop))

    def test_the_most_rows(self):
        rows = [("set", 0, 1000 + at) if at % 2 else ("nil", 1, 120 - at) for at in range(120)]
        for reach, hop in (((0, 6), 0), ((0, 6), 499), ((4999, 4999), 499), ((30, 30), 30)):
            cells = made(rows, reach, hop)
            self.assertEqual(cells, cells_in_words(rows, *settled(rows, reach, hop)))
            self.assertTrue(len(cells) <= 1000 and all(0 <= cell <= 9999 for cell in cells))


class TheAskersOwnTest(unittest.TestCase):
    def test_nothing_is_changed_and_answers_are_the_askers_own(self):
        for rows, longs, plan, cells in LAYINGS:
            kept = copy.deepcopy((rows, longs, plan))
            told = laid_cells(rows, longs, plan)
            told.append(7)
            told[0] = 5
            self.assertEqual(laid_cells(rows, longs, plan), cells)
            by_settled = made(rows, (6, 6), 9)
            right = list(by_settled)
            by_settled.append(7)
            self.assertEqual(made(rows, (6, 6), 9), right)
            self.assertEqual((rows, longs, plan), kept)

    def test_later_changes_of_what_was_handed_in(self):
        rows, longs, plan = [("set", 2, 1000)], [], ([(1, (1000,))], [0])
        told = laid_cells(rows, longs, plan)
        for one in (rows, longs, plan[0], plan[1]):
            one.clear()
        self.assertEqual(told, [5200, 5006, 7001, 8, 7002, 7101, 0, 1000])

    def test_arguments_are_as_the_interface_has_them(self):
        for name, arguments in (("laid_cells", ["rows", "longs", "plan"]), ("made", ["rows", "reach", "hop"])):
            self.assertEqual(list(inspect.signature(getattr(module, name)).parameters), arguments)


if __name__ == "__main__":
    unittest.main()
