"""Tests of nearpool.fewest: point [11], and what [2] and [3] say of it."""

import copy
import inspect
import itertools
import unittest

from nearpool import fewest as module
from nearpool.fewest import fewest_plan, fewest_pools
from nearpool.needed import needed_rows
from nearpool.places import is_plan
from nearpool.pooling import pools_for
from things import TOP, is_great, lists_in, placed_in_words, rows_by_chance

A, B, C, D = 1000, 2000, 3000, TOP


def sets(*numbers):
    return [("set", at % 5, number) for at, number in enumerate(numbers)]


# Rows, longs, reach, and the least number of pools, worked out by hand.
BY_HAND = [
    ([], [], (0, 6), 0),
    ([("set", 0, 99), ("go", 0), ("nil", 1, 3)], [1], (0, 6), 0),
    ([("tell", 0)] * 6, [], (4999, 4999), 0),
    (sets(100), [], (0, 6), 1),
    (sets(TOP), [], (4999, 4999), 1),
    # Rows at 0 and 2. A pool behind both has its first word at 8; one between them at 6, and row 1 at 8 then.
    (sets(A, A), [], (0, 6), 2),
    (sets(A, A), [], (1, 7), 2),
    (sets(A, A), [], (0, 8), 1),
    (sets(A, A), [], (2, 6), 1),
    # Between them two words: row 1 at 10.
    (sets(A, B), [], (2, 6), 2),
    (sets(A, B), [], (3, 7), 2),
    (sets(A, B), [], (4, 6), 1),
    (sets(A, B), [], (0, 8), 1),
    # Behind row 2 the first word is at 10; behind row 1 at 8, and row 2 at 10 then; behind row 0 at 6, and row 2 at 10.
    (sets(A, A, A), [], (0, 6), 3),
    (sets(A, A, A), [], (0, 8), 2),
    (sets(A, A, A), [], (1, 9), 2),
    (sets(A, A, A), [], (0, 10), 1),
    (sets(A, A, A), [], (2, 8), 1),
    (sets(A, A, A), [], (4, 6), 1),
    (sets(A, A, A), [], (3, 7), 2),
    # Each wants its own, whether the numbers are alike or not.
    (sets(A, A, A, A), [], (0, 6), 4),
    (sets(A, B, C, D), [], (1, 7), 4),
    (sets(A, B, C, D), [], (0, 8), 2),
    (sets(A, B, C, D), [], (0, 11), 2),
    (sets(A, B, C, D), [], (0, 12), 1),
    (sets(A, B, C, D), [], (4999, 4999), 1),
    # Behind the go there is no over: the head at 5, the word at 6, as near to row 0 as one straight behind it.
    (sets(A, B) + [("go", 0)], [], (0, 6), 1),
    # The go has 4 and 5; the pad at 6, the head at 7, the word at 8.
    (sets(A, B) + [("go", 0)], [2], (0, 6), 2),
    (sets(A, B) + [("go", 0)], [2], (0, 7), 2),
    (sets(A, B) + [("go", 0)], [2], (0, 8), 1),
    (sets(A, B) + [("stop",)], [], (0, 6), 1),
    # The nil falls: over at 5 and 6, head at 7, the word at 8.
    (sets(A, B) + [("nil", 0, 0)], [], (0, 7), 2),
    (sets(A, B) + [("nil", 0, 0)], [], (0, 8), 1),
    # A pool ahead of all rows: over 0 and 1, pad 2, head 3, the word at 4, row 0 at 6, the nil at 8 and 9, row 2 at 10.
    ([("set", 0, A), ("nil", 0, 0), ("set", 1, A)], [1], (1, 6), 2),
    ([("set", 0, A), ("nil", 0, 0), ("set", 1, A)], [1], (6, 6), 1),
    # The pool between the two goes: the go at 0, the head at 1, the word at 2, row 1 at 4, row 2 at 6.
    ([("go", 1)] + sets(A, A), [], (2, 6), 1),
    ([("go", 1)] + sets(A, A), [], (1, 6), 2),
]


def trial(rows, longs):
    """For each gap of each great row: how many pools that makes, and how far back and ahead rows read."""
    greats = [at for at, row in enumerate(rows) if is_great(row)]
    tried = []
    for choice in itertools.product(range(len(rows) + 1), repeat=len(greats)):
        gaps = sorted(set(choice))
        pools = [(gap, tuple({rows[at][2] for at, own in zip(greats, choice) if own == gap})) for gap in gaps]
        places, begins, end = placed_in_words(rows, longs, pools)
        steps = [places[at] - begins[gaps.index(gap)] for at, gap in zip(greats, choice)]
        tried.append((len(gaps), max(steps, default=0), max([-step for step in steps], default=0)))
    return tried


class FewestTest(unittest.TestCase):
    def holds(self, rows, longs, reach, right):
        words = (rows, longs, reach)
        many, told = fewest_pools(rows, longs, reach), fewest_plan(rows, longs, reach)
        self.assertEqual(repr(many), repr(right), words)
        self.assertIs(is_plan(rows, longs, reach, told), True, words)
        pools, uses = told
        self.assertEqual(len(pools), right, words)
        numbers = [row[2] for row in rows if is_great(row)]
        for at, (gap, words_there) in enumerate(pools):
            read = {number for number, use in zip(numbers, uses) if use == at}
            self.assertTrue(read, words)
            self.assertEqual(sorted(words_there), sorted(read), words)

    def test_by_hand(self):
        for rows, longs, reach, right in BY_HAND:
            with self.subTest(rows=rows, longs=longs, reach=reach):
                self.holds(rows, longs, reach, right)

    def test_fewer_than_those_laid_late(self):
        rows = sets(A, B) + [("go", 0)]
        self.assertEqual(len(pools_for(rows, [], (0, 6))[0]), 2)
        self.assertEqual(fewest_plan(rows, [], (0, 6))[0][0][0], 3)
        rows = sets(B, B) + [("stop",), ("set", 0, A)]
        self.assertEqual(len(pools_for(rows, [], (4, 6))[0]), 2)
        self.holds(rows, [], (4, 6), 1)

    def test_read_from_both_sides(self):
        # Behind the stop the head at 5, the words at 6 to 9, row 3 at 10.
        rows = [("set", 0, A), ("set", 1, B), ("stop",), ("set", 2, A)]
        self.holds(rows, [], (3, 7), 2)
        self.holds(rows, [], (4, 6), 1)

    def test_against_a_trial_of_every_gap_for_every_great_row(self):
        seen = set()
        for seed in range(400):
            many = seed % 7
            rows, longs = rows_by_chance(seed, many, 1 + seed % 3, 5 + seed % 5)
            if sum(is_great(row) for row in rows) > (4 if seed % 8 == 0 else 3):
                continue
            tried = trial(rows, longs)
            for reach in itertools.product((0, 1, 2, 3, 4, 6, 9), (6, 7, 8, 9, 11)):
                right = min(pools for pools, back, ahead in tried if back <= reach[0] and ahead <= reach[1])
                self.holds(rows, longs, reach, right)
                self.assertLessEqual(len(needed_rows(rows, longs, reach)), right)
                self.assertLessEqual(right, len(pools_for(rows, longs, reach)[0]))
                seen.add((sum(is_great(row) for row in rows), right))
        # All numbers of great rows, and of pools for them, come up.
        self.assertEqual(sorted(seen), [(0, 0)] + [(great, pools) for great in range(1, 5) for pools in range(1, great + 1)])


class TheAskersOwnTest(unittest.TestCase):
    def test_nothing_is_changed_and_answers_are_the_askers_own(self):
        for rows, longs, reach, right in BY_HAND:
            kept = copy.deepcopy((rows, longs, reach))
            told = fewest_plan(rows, longs, reach)
            first = copy.deepcopy(told)
            found = list(lists_in(told)) + [rows, longs] + list(lists_in(fewest_plan(rows, longs, reach)))
            self.assertEqual(len({id(one) for one in found}), len(found))
            told[0].append((7, (100,)))
            told[1].append(5)
            self.assertEqual(fewest_plan(rows, longs, reach), first)
            self.assertEqual(fewest_pools(rows, longs, reach), right)
            self.assertEqual((rows, longs, reach), kept)

    def test_later_changes_of_what_was_handed_in(self):
        rows, longs = sets(A, B) + [("go", 0)], [2]
        told = fewest_plan(rows, longs, (0, 8))
        kept = copy.deepcopy(told)
        rows.clear()
        longs.clear()
        self.assertEqual(told, kept)

    def test_kinds(self):
        for rows, longs, reach, right in BY_HAND:
            pools, uses = told = fewest_plan(rows, longs, reach)
            self.assertEqual((type(told), type(pools), type(uses)), (tuple, list, list))
            for pool in pools:
                self.assertEqual([type(part) for part in pool], [int, tuple])
            self.assertIs(type(fewest_pools(rows, longs, reach)), int)

    def test_arguments_are_as_the_interface_has_them(self):
        for name in ("fewest_pools", "fewest_plan"):
            arguments = list(inspect.signature(getattr(module, name)).parameters)
            self.assertEqual(arguments, ["rows", "longs", "reach"])


if __name__ == "__main__":
    unittest.main()
