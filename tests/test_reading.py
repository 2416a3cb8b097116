"""Tests of nearpool.reading: point [15], and what [1], [2] and [3] say of it."""

import copy
import inspect
import itertools
import random
import unittest

from nearpool import reading as module
from nearpool.codes import seen_at
from nearpool.errors import BadCells
from nearpool.laying import laid_cells, made
from nearpool.places import is_plan
from nearpool.reading import parts_of, read_back
from nearpool.rows import is_rows
from things import LAYINGS, ODD_THINGS, cells_in_words, changed, laying_by_chance, lists_in, rows_by_chance

# Cells of which there are no parts, and why.
SPOILT = [
    ([7001, 0], "an over without a pool"),
    ([7001, 2], "an over without a pool, to the end"),
    ([7002], "a pad without a pool"),
    ([4000, 7002], "a pad without a pool"),
    ([7101, 0, 100], "at the first gap neither over nor pad"),
    ([7002, 7101, 0, 100], "at the first gap no over"),
    ([7001, 5, 7101, 0, 100], "no pad at an even place"),
    ([7001, 7, 7002, 7002, 7101, 0, 100], "two pads"),
    ([7001, 5, 7002, 7101, 0, 100], "an over to within the pool"),
    ([7001, 7, 7002, 7101, 0, 100], "an over to beyond the end"),
    ([7001, 7, 7002, 7101, 0, 100, 4000], "an over to beyond the row behind"),
    ([7001, 0, 7002, 7101, 0, 100, 4000], "an over back"),
    ([4000, 7001, 6, 7002, 7101, 0, 100], "a pad at an odd place"),
    ([4000, 7001, 7, 7002, 7101, 0, 100], "a pad at an odd place"),
    ([4000, 7101, 0, 100], "no over behind a row that falls"),
    ([6500, 7001, 6, 7101, 0, 100], "an over behind a go"),
    ([0, 7001, 6, 7101, 0, 100], "an over behind a stop"),
    ([7001, 2, 7001, 8, 7002, 7101, 0, 100], "two overs"),
    ([7002, 7001, 6, 7101, 0, 100], "the pad ahead of the over"),
    ([0, 7101, 0, 100, 7002, 7101, 0, 200], "two pools at one gap"),
    ([4000, 7001, 6, 7101, 0, 100, 7001, 12, 7002, 7101, 0, 200], "two pools at one gap"),
    ([0, 7101, 0, 99], "a word below 100"),
    ([0, 7101, 0, 0], "a word below 100"),
    ([0, 7102, 0, 100, 0, 99], "a word below 100"),
    ([0, 7102, 0, 100, 0, 100], "words alike"),
    ([0, 7103, 0, 100, 0, 200, 0, 100], "words alike"),
    ([0, 7100, 0, 100], "a head of no words"),
    ([0, 7102, 0, 100], "a pool cut off"),
    ([0, 7101, 0], "a pool cut off"),
    ([0, 7101], "a pool cut off"),
    ([0, 7101, 0, 100, 100], "a cell behind the pool in which nothing is written"),
    ([5000, 5006], "a great row without a pool"),
    ([5000, 5006, 7001, 8, 7002, 7101, 0, 99], "a great row that reads no great number"),
    ([5001, 5006, 7001, 8, 7002, 7101, 0, 100], "a great row beyond the words"),
    ([5000, 5004, 7001, 8, 7002, 7101, 0, 100], "a great row that reads elsewhere"),
    ([5000, 5005, 7001, 8, 7002, 7101, 0, 100], "a great row that reads the head"),
    ([5000, 5008, 7001, 8, 7002, 7101, 0, 100], "a great row that reads beyond the pool"),
    ([5000, 5008, 7001, 10, 7002, 7102, 0, 100, 0, 200], "a great row that reads from the second word on"),
    ([5000], "a great row cut off"),
    ([7000], "a long go cut off"),
    ([9000], "a long nil cut off"),
    ([6499], "a go to below 0"),
    ([6502], "a go to beyond the end"),
    ([7000, 1], "a go to within a row"),
    ([7000, 3], "a go to beyond the end"),
    ([8099], "a nil to below 0"),
    ([8102], "a nil to beyond the end"),
    ([9004, 1], "a nil to within a row"),
    ([6501, 7101, 0, 100, 4000], "a go to a head"),
    ([6502, 7101, 0, 100, 4000], "a go to a word"),
    ([8101, 7001, 6, 7101, 0, 100], "a nil to an over"),
    ([8103, 7001, 6, 7101, 0, 100], "a nil to a head"),
    ([7000, 2, 7002, 7101, 0, 100], "a go to a pad"),
    ([1], "a cell in which nothing is written"),
    ([0, 7777], "a cell in which nothing is written"),
    ([0, 0, 9999], "a cell in which nothing is written"),
]

NO_CELLS = [
    [-1], [10000], [10 ** 30], [-10 ** 30], [True], [False], [0, True], [None], ["0"], [(0,)], [[0]], [0, [0]], (0,), (),
    (4000, 0), "0", "", [""], [[]], [()], [0, None, 0], [6500, -1], [7000, False],
]


def pool_in_words(cells, place, falls):
    """The tuple of the words of a pool, of their place and of the place behind, if all of [7] stands there."""
    seen, over = seen_at(cells, place), None
    if falls:
        if seen is None or seen[0][0] != "over":
            return None
        over, place = seen[0][1], place + 2
    if place % 2 == 0:
        if seen_at(cells, place) != (("pad",), place + 1):
            return None
        place += 1
    seen = seen_at(cells, place)
    if seen is None or seen[0][0] != "pool" or (falls and over != seen[1]):
        return None
    numbers = seen[0][1]
    if min(numbers) < 100 or len(set(numbers)) < len(numbers):
        return None
    return (numbers, place + 1, seen[1])


def items_in_words(cells):
    """The rows as they are seen, their places, the pools and the places of their words; None where there are none."""
    place, things, places, pools, begins = 0, [], [], [], []
    while place < len(cells):
        seen = seen_at(cells, place)
        if seen is None:
            return None
        if seen[0][0] in ("over", "pad", "pool"):
            found = pool_in_words(cells, place, not things or things[-1][0] not in ("go", "stop"))
            if found is None or (pools and pools[-1][0] == len(things)):
                return None
            pools.append((len(things), found[0]))
            begins.append(found[1])
            place = found[2]
        else:
            things.append(seen[0])
            places.append(place)
            place = seen[1]
    return things, places, pools, begins


def parts_in_words(cells):
    """The parts, read strictly from left to right; None where there are none."""
    items = items_in_words(cells)
    if items is None:
        return None
    things, places, pools, begins = items
    goals = [*places, len(cells)]
    rows, longs, uses = [], [], []
    for place, thing in zip(places, things):
        if thing[0] in ("go", "nil"):
            if thing[-2] not in goals:
                return None
            longs += [len(rows)] if thing[-1] else []
            thing = (*thing[:-2], goals.index(thing[-2]))
        if thing[0] == "great":
            great, r, begin, at = thing
            if begin not in begins or abs(begin - place) > 4999 or at >= len(pools[begins.index(begin)][1]):
                return None
            uses.append(begins.index(begin))
            thing = ("set", r, pools[uses[-1]][1][at])
        rows.append(thing)
    return (rows, longs, (pools, uses))


class ReadingTest(unittest.TestCase):
    def refuses(self, cells, words=None):
        kept = copy.deepcopy(cells)
        for ask in (parts_of, read_back):
            with self.assertRaises(BadCells, msg=(cells, words)) as caught:
                ask(cells)
            self.assertIs(type(caught.exception), BadCells)
        self.assertEqual(repr(cells), repr(kept))

    def tells(self, cells, right):
        self.assertEqual(repr(parts_of(cells)), repr(right), cells)
        self.assertEqual(repr(read_back(cells)), repr(right[0]), cells)

    def as_in_words(self, cells):
        """Whether there are parts; what is told, or refused, is held against the words."""
        right = parts_in_words(cells)
        if right is None:
            self.refuses(cells)
            return False
        self.tells(cells, right)
        rows, longs, plan = right
        self.assertTrue(is_rows(rows) and is_plan(rows, longs, (4999, 4999), plan))
        self.assertEqual(cells_in_words(rows, longs, plan), cells)
        return True


def with_one_otherwise(cells):
    """Each list of cells with one of them changed, left out, twice, put in, or changed for the next one."""
    others = (0, 1, 100, 4000, 5000, 6500, 6501, 7000, 7001, 7002, 7101, 7102, 8100, 9000, 9999)
    for at, cell in enumerate(cells):
        ahead, behind = cells[:at], cells[at + 1:]
        for step in (-200, -100, -10, -2, -1, 1, 2, 10, 100, 200):
            if 0 <= cell + step <= 9999:
                yield ahead + [cell + step] + behind
        yield ahead + behind
        yield ahead + [cell, cell] + behind
        yield ahead + behind[:1] + [cell] + behind[1:]
        for other in others:
            yield ahead + [other] + behind
    for at in range(len(cells) + 1):
        for other in others:
            yield cells[:at] + [other] + cells[at:]
    for at in range(len(cells)):
        yield cells[:at]
        yield cells[at:]


class RightCellsTest(ReadingTest):
    def test_by_hand(self):
        for rows, longs, plan, cells in LAYINGS:
            with self.subTest(cells=cells):
                self.tells(cells, (rows, longs, plan))

    def test_the_empty_list(self):
        self.tells([], ([], [], ([], [])))

    def test_long_jumps_that_might_be_short(self):
        self.tells([7000, 2], ([("go", 1)], [0], ([], [])))
        self.tells([9003, 0, 7000, 0, 6496], ([("nil", 3, 0), ("go", 0), ("go", 0)], [0, 1], ([], [])))

    def test_pools_that_none_reads_and_words_that_none_reads(self):
        self.tells([0, 7101, 0, 100], ([("stop",)], [], ([(1, (100,))], [])))
        cells = [5001, 5006, 7001, 12, 7002, 7103, 0, 100, 0, 200, 9999, 9999]
        self.tells(cells, ([("set", 0, 200)], [], ([(1, (100, 200, 99999999))], [0])))

    def test_the_farthest_that_a_great_row_reads(self):
        # The first word at 2; the great row 4,999 and 5,000 behind it, which no plan of (4999, 4999) has.
        for many, second in ((4997, 1), (4998, 0)):
            cells = [0, 7101, 0, 100] + [0] * many + [5000, second]
            rows = [("stop",)] * (many + 1) + [("set", 0, 100)]
            if second == 1:
                self.tells(cells, (rows, [], ([(1, (100,))], [0])))
            else:
                self.refuses(cells)
        # Ahead: the great row at 1, the head at 4,999.
        rows = [("stop",), ("set", 4, 100)] + [("stop",)] * 4996
        self.tells([0, 5400, 9999] + [0] * 4996 + [7101, 0, 100], (rows, [], ([(4998, (100,))], [0])))

    def test_whatever_is_laid_is_read_back(self):
        for seed in range(300):
            rows, longs, plan = laying_by_chance(seed, seed % 61, 1 + seed % 5, seed % 7)
            self.tells(laid_cells(rows, longs, plan), (rows, longs, plan))

    def test_whatever_is_made_is_read_back(self):
        for seed in range(80):
            rows, longs = rows_by_chance(seed, 40 + seed, 1 + seed % 9, 1 + seed % 5)
            for reach, hop in (((0, 6), 0), ((9, 8), 20), ((60, 60), 99), ((4999, 4999), 499)):
                self.assertEqual(read_back(made(rows, reach, hop)), rows)

    def test_a_thousand_cells(self):
        self.tells([0] * 1000, ([("stop",)] * 1000, [], ([], [])))
        self.tells([7000, 1000] * 500, ([("go", 500)] * 500, list(range(500)), ([], [])))
        # Behind each go a pool with neither over nor pad: rows at 0, 4, 8 and so on, each going to the one ahead.
        rows = [("go", 0)] + [("go", at) for at in range(249)]
        pools = [(at, (10001,)) for at in range(1, 250)]
        self.tells([6500] + [7101, 1, 1, 6496] * 249, (rows, [], (pools, [])))


class SpoiltCellsTest(ReadingTest):
    def test_by_hand(self):
        for cells, words in SPOILT:
            with self.subTest(words=words, cells=cells):
                self.refuses(cells, words)
                self.assertIsNone(parts_in_words(cells))

    def test_no_cells(self):
        for thing in NO_CELLS + [thing for thing in ODD_THINGS if thing != [0]]:
            with self.subTest(thing=thing):
                self.refuses(thing)

    def test_cells_of_other_kinds(self):
        for rows, longs, plan, cells in LAYINGS:
            for thing in changed(cells):
                if type(thing) is list and all(type(cell) is int and 0 <= cell <= 9999 for cell in thing):
                    self.as_in_words(thing)
                else:
                    self.refuses(thing)

    def test_one_step_otherwise_at_any_place(self):
        told, refused = 0, 0
        layings = [cells for rows, longs, plan, cells in LAYINGS]
        for seed in range(16):
            layings.append(laid_cells(*laying_by_chance(seed, 2 + seed % 9, 3, 4)))
        for cells in layings:
            for other in with_one_otherwise(cells):
                if self.as_in_words(other):
                    told += 1
                else:
                    refused += 1
        self.assertTrue(told > 500 and refused > 5000, (told, refused))

    def test_two_steps_otherwise(self):
        chance = random.Random(3)
        for seed in range(400):
            cells = laid_cells(*laying_by_chance(seed, 1 + seed % 8, 2, 4))
            for step in range(2):
                at = chance.randrange(len(cells))
                cells[at:at + chance.randrange(2)] = chance.choice([[], [7002], [7001, at + 2], [cells[at]], [0], [4000]])
                if not cells:
                    break
            self.as_in_words(cells)

    def test_every_short_list_of_some_cells(self):
        told = 0
        for many in range(5):
            for cells in itertools.product((0, 2, 4, 100, 4000, 5000, 6500, 6501, 7000, 7001, 7101, 8099), repeat=many):
                told += self.as_in_words(list(cells))
        self.assertGreater(told, 500)

    def test_a_pool_with_every_over_and_pad(self):
        # Ahead of the pool each mixture of overs and pads; just one of them is right.
        for ahead in ([], [4000], [0], [4000, 4000], [4000, 0], [6500], [7000, 0], [8100], [1005, 8100]):
            for many in range(4):
                for between in itertools.product(("over", "pad"), repeat=many):
                    cells = list(ahead)
                    end = len(ahead) + sum(2 if one == "over" else 1 for one in between) + 3
                    for one in between:
                        cells += [7001, end] if one == "over" else [7002]
                    cells += [7101, 0, 100]
                    falls = not ahead or (ahead[-1] not in (0, 6500) and ahead[-2:] != [7000, 0])
                    right = ["over"] * falls + ["pad"] * ((len(ahead) + 2 * falls) % 2 == 0)
                    self.assertEqual(self.as_in_words(cells), list(between) == right, cells)


class TheAskersOwnTest(ReadingTest):
    def test_nothing_is_changed_and_answers_are_the_askers_own(self):
        for rows, longs, plan, cells in LAYINGS:
            kept = list(cells)
            told, read = parts_of(cells), read_back(cells)
            found = list(lists_in((told, read, parts_of(cells), read_back(cells)))) + [cells]
            self.assertEqual(len({id(one) for one in found}), len(found))
            for one in lists_in((told, read)):
                one.append(5)
            self.tells(cells, (rows, longs, plan))
            self.assertEqual(cells, kept)

    def test_later_changes_of_the_cells(self):
        cells = [5200, 5006, 7001, 8, 7002, 7101, 0, 1000]
        told = parts_of(cells)
        cells[7] = 2000
        self.assertEqual(told, ([("set", 2, 1000)], [], ([(1, (1000,))], [0])))
        self.assertEqual(read_back(cells), [("set", 2, 2000)])

    def test_kinds(self):
        rows, longs, plan = told = parts_of([5200, 5006, 7001, 8, 7002, 7101, 0, 1000])
        self.assertEqual([type(part) for part in (told, rows, longs, plan)], [tuple, list, list, tuple])
        self.assertEqual([type(part) for part in (rows[0], *plan, plan[0][0], plan[0][0][1])], [tuple, list, list, tuple, tuple])

    def test_a_refusal_leaves_nothing_behind(self):
        for cells, words in SPOILT:
            self.refuses(cells, words)
            self.tells([4000], ([("tell", 0)], [], ([], [])))

    def test_arguments_are_as_the_interface_has_them(self):
        for name in ("parts_of", "read_back"):
            self.assertEqual(list(inspect.signature(getattr(module, name)).parameters), ["cells"])


if __name__ == "__main__":
    unittest.main()
