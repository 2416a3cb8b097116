"""Tests of the whole program: point [1], [2] and [3] over all its files, and the interface."""

import copy
import importlib
import inspect
import random
import unittest

from nearpool.codes import row_cells, seen_at
from nearpool.desk import answers
from nearpool.errors import BadCells, BadText, PoolError
from nearpool.fewest import fewest_plan, fewest_pools
from nearpool.growing import least_longs, settled, too_short
from nearpool.laycheck import shows_laid
from nearpool.laying import laid_cells, made
from nearpool.machine import run
from nearpool.needed import needed_rows, shows_needed
from nearpool.places import is_plan, placed
from nearpool.plainrun import told_plainly
from nearpool.pooling import pools_for
from nearpool.reading import parts_of, read_back
from nearpool.rows import falls, greats_of, is_rows, joined, jumps_of
from nearpool.texts import rows_from, text_from
from things import is_great, lists_in, rows_by_chance

INTERFACE = {
    "rows": {
        "is_rows": ["thing"], "greats_of": ["rows"], "jumps_of": ["rows"], "falls": ["row"], "joined": ["one", "other"],
    },
    "plainrun": {"told_plainly": ["rows", "most"]},
    "codes": {"row_cells": ["row", "place", "long", "goal"], "seen_at": ["cells", "place"]},
    "places": {"placed": ["rows", "longs", "pools"], "is_plan": ["rows", "longs", "reach", "thing"]},
    "pooling": {"pools_for": ["rows", "longs", "reach"]},
    "needed": {"needed_rows": ["rows", "longs", "reach"], "shows_needed": ["rows", "longs", "reach", "thing"]},
    "fewest": {"fewest_pools": ["rows", "longs", "reach"], "fewest_plan": ["rows", "longs", "reach"]},
    "growing": {
        "too_short": ["rows", "longs", "pools", "hop"], "least_longs": ["rows", "hop"], "settled": ["rows", "reach", "hop"],
    },
    "laying": {"laid_cells": ["rows", "longs", "plan"], "made": ["rows", "reach", "hop"]},
    "machine": {"run": ["cells", "most"]},
    "reading": {"parts_of": ["cells"], "read_back": ["cells"]},
    "laycheck": {"shows_laid": ["rows", "reach", "hop", "thing"]},
    "texts": {"rows_from": ["text"], "text_from": ["rows"]},
    "desk": {"answers": ["text"]},
}

# Takes 1,000,000 from 1,000,003, and counts down what is left.
TEXT = """set a 1000003
set b 1000000
set d 1
again:
tell a
less a b
tell b
few:
nil a done
tell a
less a d
go few
done:
set c 99999999
tell c
set e 1000000
tell e"""
TOLD = [1000003, 1000000, 3, 2, 1, 99999999, 1000000]


class InterfaceTest(unittest.TestCase):
    def test_names_and_arguments(self):
        for name, functions in INTERFACE.items():
            file = importlib.import_module(f"nearpool.{name}")
            for told, arguments in functions.items():
                signature = inspect.signature(getattr(file, told))
                self.assertEqual(list(signature.parameters), arguments, told)
                self.assertTrue(all(one.default is one.empty for one in signature.parameters.values()), told)

    def test_errors(self):
        self.assertEqual([PoolError.__bases__, BadCells.__bases__, BadText.__bases__], [(ValueError,), (PoolError,), (PoolError,)])
        self.assertEqual(BadText(7).row, 7)
        self.assertIsInstance(BadCells("words"), PoolError)


class TheWholeWayTest(unittest.TestCase):
    def test_from_a_text_to_a_run(self):
        rows = rows_from(TEXT)
        self.assertEqual(told_plainly(rows, 2000)[:2], (TOLD, "ended"))
        for reach, hop in (((0, 6), 0), ((0, 6), 9), ((5, 7), 3), ((12, 12), 20), ((4999, 4999), 499)):
            cells = made(rows, reach, hop)
            self.assertEqual(run(cells, 2000)[:2], (TOLD, "ended"))
            self.assertEqual(read_back(cells), rows)
            self.assertIs(shows_laid(rows, reach, hop, cells), True)
            self.assertEqual(rows_from(text_from(read_back(cells))), rows)
            longs, plan = settled(rows, reach, hop)
            gaps = "".join(f" {gap}" for gap, numbers in plan[0])
            told = "".join(f" {number}" for number in TOLD)
            right = f"cells {len(cells)}\npools{gaps}\nlongs{''.join(f' {at}' for at in longs)}\ntold{told}\nended"
            self.assertEqual(answers(f"reach {reach[0]} {reach[1]}\nhop {hop}\nmost 2000\n{TEXT}"), right)

    def test_rows_by_chance(self):
        for seed in range(120):
            rows, longs = rows_by_chance(seed, seed, 1 + seed % 6, 1 + seed % 5)
            reach = ((0, 6), (7, 6), (20, 30), (4999, 4999))[seed % 4]
            hop = (0, 8, 60, 499)[seed // 4 % 4]
            cells = made(rows, reach, hop)
            parts = parts_of(cells)
            self.assertEqual(parts, (rows, *settled(rows, reach, hop)))
            self.assertEqual(laid_cells(*parts), cells)
            self.assertIs(shows_laid(rows, reach, hop, cells), True)
            self.assertEqual(rows_from(text_from(rows)), rows)
            told, end, went = told_plainly(rows, 200)
            places, begins, behind = placed(rows, parts[1], parts[2][0])
            self.assertEqual(run(cells, 200), (told, end, [places[at] for at in went]))

    def test_like_numbers_share_a_word(self):
        rows = [("set", at % 5, 1000 + at % 3) for at in range(30)]
        longs, (pools, uses) = settled(rows, (4999, 4999), 0)
        self.assertEqual(pools, [(30, (1000, 1001, 1002))])

    def test_what_was_told_may_be_handed_in_again(self):
        rows = rows_from(TEXT)
        both = joined(rows, rows)
        self.assertIs(is_rows(both), True)
        longs, plan = settled(both, (9, 9), 12)
        self.assertIs(is_plan(both, longs, (9, 9), plan), True)
        self.assertEqual(too_short(both, longs, plan[0], 12), [])
        cells = laid_cells(both, longs, plan)
        self.assertEqual(parts_of(cells), (both, longs, plan))
        self.assertEqual(run(cells, 2000)[:2], told_plainly(both, 2000)[:2])
        self.assertEqual(rows_from(text_from(both)), both)
        needed = needed_rows(both, longs, (9, 9))
        self.assertIs(shows_needed(both, longs, (9, 9), needed), True)
        self.assertTrue(len(needed) <= len(pools_for(both, longs, (9, 9))[0]))

    def test_the_most_of_everything(self):
        rows = [("set", at % 5, 5000000 + at) if at % 2 else ("nil", at % 5, 120 - at) for at in range(120)]
        self.assertEqual((len(greats_of(rows)), len(jumps_of(rows))), (60, 60))
        for reach, hop in (((0, 6), 0), ((10, 10), 99), ((4999, 4999), 499), ((0, 4999), 20), ((4999, 6), 20)):
            cells = made(rows, reach, hop)
            self.assertEqual(read_back(cells), rows)
            self.assertEqual(run(cells, 2000)[:2], told_plainly(rows, 2000)[:2])
            self.assertIs(shows_laid(rows, reach, hop, cells), True)
            text = f"reach {reach[0]} {reach[1]}\nhop {hop}\nmost 2000\n{text_from(rows)}"
            self.assertEqual(answers(text).split("\n")[0], f"cells {len(cells)}")

    def test_texts_of_the_most_rows_and_signs(self):
        lines = ["tell a"] * 596 + ["go x"]
        with self.assertRaises(BadText) as caught:
            answers("\n".join(["reach 9 9", "hop 9", "most 9"] + lines))
        self.assertEqual(caught.exception.row, 599)
        lines[-1] = "x:"
        told = answers("\n".join(["reach 9 9", "hop 9", "most 2000"] + lines))
        self.assertEqual(told, "cells 596\npools\nlongs\ntold" + " 0" * 596 + "\nended")
        for sign in " ~a0:":
            with self.assertRaises(BadText) as caught:
                rows_from("\n".join(["stop"] * 599 + [sign * 60]))
            self.assertEqual(caught.exception.row, 599)


class FewestTest(unittest.TestCase):
    def test_between_those_needed_and_those_laid_late(self):
        for seed in range(120):
            rows, longs = rows_by_chance(seed, seed % 7, 1 + seed % 3, 4)
            if sum(is_great(row) for row in rows) > 4:
                continue
            for reach in ((0, 6), (2, 6), (4, 8), (9, 9), (4999, 4999)):
                least = fewest_pools(rows, longs, reach)
                self.assertTrue(len(needed_rows(rows, longs, reach)) <= least <= len(pools_for(rows, longs, reach)[0]))


def questions(rows, few, longs, reach, hop, text):
    """Each function of the interface with things to be asked of; lists are shared between the questions."""
    plan = pools_for(rows, longs, reach)
    wide = settled(rows, reach, hop)
    cells = made(rows, reach, hop)
    return [
        (is_rows, (rows,)), (greats_of, (rows,)), (jumps_of, (rows,)), (falls, (rows[0],)), (joined, (rows, rows)),
        (told_plainly, (rows, 50)), (row_cells, (("go", 3), 7, True, 9)), (seen_at, (cells, 0)), (placed, (rows, longs, plan[0])),
        (is_plan, (rows, longs, reach, plan)), (pools_for, (rows, longs, reach)), (needed_rows, (rows, longs, reach)),
        (shows_needed, (rows, longs, reach, [0])), (fewest_pools, (few, [], reach)), (fewest_plan, (few, [], reach)),
        (too_short, (rows, longs, plan[0], hop)), (least_longs, (rows, hop)), (settled, (rows, reach, hop)),
        (laid_cells, (rows, *wide)), (made, (rows, reach, hop)), (run, (cells, 50)), (parts_of, (cells,)),
        (read_back, (cells,)), (shows_laid, (rows, reach, hop, cells)), (rows_from, (text,)), (text_from, (rows,)),
        (answers, (f"reach {reach[0]} {reach[1]}\nhop {hop}\nmost 50\n{text}",)),
        (parts_of, (cells + [7002],)), (read_back, ([True],)), (rows_from, ("x:\nx:",)), (answers, ("stop",)),
    ]


def asked(ask, things):
    """The answer, or the refusal."""
    try:
        return ask(*things)
    except PoolError as error:
        return (type(error).__name__, getattr(error, "row", None))


class TheAskersOwnTest(unittest.TestCase):
    def setUp(self):
        rows, longs = rows_by_chance(5, 30, 3, 3)
        few = [("set", 0, 1000), ("go", 2), ("set", 1, 2000), ("nil", 0, 0)]
        self.questions = questions(rows, few, longs, (9, 9), 8, text_from(rows))

    def test_the_same_is_told_behind_other_questions(self):
        first = [repr(asked(ask, things)) for ask, things in self.questions]
        for seed in range(20):
            order = list(range(len(self.questions)))
            random.Random(seed).shuffle(order)
            for at in order:
                ask, things = self.questions[at]
                self.assertEqual(repr(asked(ask, things)), first[at], ask)

    def test_nothing_handed_in_is_changed(self):
        for ask, things in self.questions:
            kept = copy.deepcopy(things)
            asked(ask, things)
            self.assertEqual(repr(things), repr(kept), ask)

    def test_no_two_lists_are_one_and_the_same(self):
        told = [asked(ask, things) for ask, things in self.questions]
        told += [asked(ask, things) for ask, things in self.questions]
        found = list(lists_in(told))[1:]
        handed = {id(one): one for one in lists_in([things for ask, things in self.questions])}
        self.assertEqual(len({id(one) for one in found} | set(handed)), len(found) + len(handed))

    def test_an_answer_changed_by_the_asker_changes_no_later_one(self):
        for ask, things in self.questions:
            told = asked(ask, things)
            right = repr(told)
            for one in lists_in(told):
                one.clear()
            for one in lists_in(told):
                one.append(77)
            self.assertEqual(repr(asked(ask, things)), right, ask)

    def test_later_changes_of_what_was_handed_in(self):
        for ask, things in self.questions:
            mine = copy.deepcopy(things)
            told = asked(ask, mine)
            right = repr(told)
            for one in lists_in(mine):
                one.clear()
            self.assertEqual(repr(told), right, ask)


if __name__ == "__main__":
    unittest.main()
