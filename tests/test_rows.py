"""Tests of nearpool.rows: point [4], and what [2] and [3] say of it."""

import copy
import inspect
import itertools
import unittest

from nearpool import rows as module
from nearpool.rows import falls, greats_of, is_rows, joined, jumps_of
from things import ODD_THINGS, TOP

ONE_OF_EACH = [
    ("set", 0, 99), ("set", 4, 100), ("sum", 0, 4), ("less", 4, 0), ("tell", 2), ("go", 7), ("nil", 1, 0), ("stop",),
]

# Rows built by the words of [4], for a list of so many rows; what is_rows is held against.
REGISTERS = (0, 1, 2, 3, 4)
NUMBERS = (0, 1, 99, 100, TOP)


def right_rows(many):
    goals = range(many + 1)
    made = [("stop",)] + [("tell", r) for r in REGISTERS] + [("go", t) for t in goals]
    made += [("set", r, n) for r in REGISTERS for n in NUMBERS]
    made += [(word, r, s) for word in ("sum", "less") for r in REGISTERS for s in REGISTERS]
    return made + [("nil", r, t) for r in REGISTERS for t in goals]


class IsRowsTest(unittest.TestCase):
    def right(self, *things):
        for thing in things:
            with self.subTest(thing=thing):
                self.assertIs(is_rows(thing), True)

    def wrong(self, *things):
        for thing in things:
            with self.subTest(thing=thing):
                self.assertIs(is_rows(thing), False)

    def test_the_empty_list(self):
        self.right([])

    def test_each_form(self):
        self.right(ONE_OF_EACH, *([row] for row in right_rows(1)))

    def test_registers_at_their_bounds(self):
        for make in (
            lambda r: ("set", r, 5), lambda r: ("sum", r, 0), lambda r: ("sum", 0, r), lambda r: ("less", r, 0),
            lambda r: ("less", 0, r), lambda r: ("tell", r), lambda r: ("nil", r, 0),
        ):
            self.right([make(0)], [make(4)])
            self.wrong([make(5)], [make(-1)], [make(10 ** 20)])

    def test_numbers_at_their_bounds(self):
        self.right(*([("set", 0, n)] for n in (0, 1, 99, 100, 101, TOP)))
        self.wrong(*([("set", 0, n)] for n in (-1, TOP + 1, 10 ** 20, -10 ** 20)))

    def test_goals_at_their_bounds(self):
        for make in (lambda t: ("go", t), lambda t: ("nil", 3, t)):
            for many in (1, 2, 5, 120):
                rest = [("stop",)] * (many - 1)
                for row in (0, many - 1, many):
                    self.right([make(row)] + rest, rest + [make(row)])
                for row in (-1, many + 1):
                    self.wrong([make(row)] + rest, rest + [make(row)])

    def test_a_part_too_many_or_too_few(self):
        for row in ONE_OF_EACH:
            rest = [("stop",)] * 7
            self.right([row] + rest)
            self.wrong([row[:-1]] + rest)
            for part in (0, 1, "set", None, True, (), []):
                self.wrong([row + (part,)] + rest)

    def test_words_that_are_none(self):
        for word in ("", "Set", "SET", " set", "set ", "se", "sets", "jump", "over", "pad", "great", "r", 0, None, True):
            self.wrong([(word,)], [(word, 0)], [(word, 0, 0)], [(word, 0, 0, 0)])

    def test_words_of_other_rows(self):
        self.wrong([("stop", 0)], [("tell",)], [("tell", 0, 0)], [("go",)], [("go", 0, 0)], [("nil", 0)], [("sum", 0)])

    def test_true_and_false_are_no_numbers(self):
        for truth in (True, False):
            self.wrong(
                [("set", truth, 5)], [("set", 0, truth)], [("sum", truth, 0)], [("sum", 0, truth)],
                [("less", truth, 0)], [("less", 0, truth)], [("tell", truth)], [("go", truth)],
                [("nil", truth, 0)], [("nil", 0, truth)],
            )

    def test_lists_for_tuples_and_tuples_for_lists(self):
        self.wrong(tuple(ONE_OF_EACH), (), (("stop",),))
        for at, row in enumerate(ONE_OF_EACH):
            self.wrong(ONE_OF_EACH[:at] + [list(row)] + ONE_OF_EACH[at + 1:])

    def test_odd_things_as_the_whole(self):
        self.wrong(*(thing for thing in ODD_THINGS if thing != []))

    def test_odd_things_as_a_row(self):
        for thing in ODD_THINGS:
            right = thing in [("stop",), ("set", 0, 1)]
            for whole in ([thing], [("stop",), thing], [thing, ("stop",)]):
                self.assertIs(is_rows(whole), right, whole)

    def test_odd_things_as_a_part(self):
        for row in ONE_OF_EACH:
            for at, thing in itertools.product(range(len(row)), ODD_THINGS):
                whole = [row[:at] + (thing,) + row[at + 1:]] + [("stop",)] * 7
                number = isinstance(thing, int) and not isinstance(thing, bool)
                if at > 0 and number and 0 <= thing <= 7:
                    continue
                if at == 0 and isinstance(thing, str):
                    continue
                self.assertIs(is_rows(whole), False, whole)

    def test_each_tuple_of_few_parts_against_the_words_of_the_point(self):
        parts = [-1, 0, 1, 2, 4, 5, 99, 100, TOP, TOP + 1, None, True, False, "", "set", (), []]
        words = ["set", "sum", "less", "tell", "go", "nil", "stop", "goes", 1, None, (), []]
        right = {repr(row) for row in right_rows(1)} | {repr(("set", r, n)) for r in REGISTERS for n in parts[1:9]}
        for size in (0, 1, 2, 3):
            for rest in itertools.product(parts, repeat=size):
                for word in words:
                    row = (word,) + rest
                    self.assertIs(is_rows([row]), repr(row) in right, row)

    def test_one_wrong_row_anywhere(self):
        for at in range(len(ONE_OF_EACH) + 1):
            self.wrong(ONE_OF_EACH[:at] + [("tell", 5)] + ONE_OF_EACH[at:])

    def test_bounds_of_three_are_not_looked_at(self):
        self.right([("set", 0, TOP)] * 500, [("go", 1000)] * 1000)


class LookedForTest(unittest.TestCase):
    def test_greats_at_their_bound(self):
        for n, told in ((0, []), (99, []), (100, [0]), (101, [0]), (TOP, [0])):
            for r in REGISTERS:
                self.assertEqual(greats_of([("set", r, n)]), told)

    def test_greats_among_each_form(self):
        self.assertEqual(greats_of(ONE_OF_EACH), [1])
        self.assertEqual(greats_of([("set", 1, 100), ("set", 1, 99), ("set", 2, 100), ("set", 2, 101)]), [0, 2, 3])

    def test_a_goal_above_ninety_nine_is_not_great(self):
        rows = [("go", 120), ("nil", 0, 120)] + [("stop",)] * 118
        self.assertEqual(greats_of(rows), [])

    def test_jumps_among_each_form(self):
        self.assertEqual(jumps_of(ONE_OF_EACH), [5, 6])
        self.assertEqual(jumps_of([("nil", 0, 0), ("stop",), ("go", 4), ("go", 3)]), [0, 2, 3])

    def test_none_of_them(self):
        plain = [("set", 0, 99), ("sum", 0, 0), ("less", 1, 2), ("tell", 3), ("stop",)]
        for rows in ([], plain):
            self.assertEqual(greats_of(rows), [])
            self.assertEqual(jumps_of(rows), [])

    def test_many_rows(self):
        rows = [("set", 0, 100), ("go", 0)] * 60
        self.assertEqual(greats_of(rows), list(range(0, 120, 2)))
        self.assertEqual(jumps_of(rows), list(range(1, 120, 2)))

    def test_falls_of_each_form(self):
        for row in right_rows(2):
            self.assertIs(falls(row), row[0] not in ("go", "stop"), row)


class JoinedTest(unittest.TestCase):
    ONE = [("nil", 0, 2), ("set", 1, 100)]
    OTHER = [("go", 0), ("nil", 4, 3), ("set", 2, 2), ("sum", 1, 2), ("less", 2, 1), ("tell", 3), ("stop",), ("go", 8)]

    def test_goals_of_the_second_are_as_much_farther_on(self):
        told = joined(self.ONE, self.OTHER)
        self.assertEqual(told, [
            ("nil", 0, 2), ("set", 1, 100),
            ("go", 2), ("nil", 4, 5), ("set", 2, 2), ("sum", 1, 2), ("less", 2, 1), ("tell", 3), ("stop",), ("go", 10),
        ])
        self.assertIs(is_rows(told), True)

    def test_either_is_empty(self):
        self.assertEqual(joined([], []), [])
        self.assertEqual(joined(self.ONE, []), self.ONE)
        self.assertEqual(joined([], self.OTHER), self.OTHER)

    def test_three_either_way(self):
        lists = [[], self.ONE, self.OTHER, ONE_OF_EACH, [("go", 1)], [("nil", 3, 0)]]
        for one, other, third in itertools.product(lists, repeat=3):
            left = joined(joined(one, other), third)
            self.assertEqual(left, joined(one, joined(other, third)))
            self.assertEqual(len(left), len(one) + len(other) + len(third))
            self.assertIs(is_rows(left), True)

    def test_with_itself(self):
        rows = [("go", 2), ("nil", 1, 0)]
        self.assertEqual(joined(rows, rows), [("go", 2), ("nil", 1, 0), ("go", 4), ("nil", 1, 2)])
        self.assertEqual(rows, [("go", 2), ("nil", 1, 0)])

    def test_what_is_looked_for_in_the_whole(self):
        rows = joined(ONE_OF_EACH, self.OTHER)
        self.assertEqual(greats_of(rows), [1])
        self.assertEqual(jumps_of(rows), [5, 6, 8, 9, 15])

    def test_nothing_handed_in_is_changed(self):
        for one, other in itertools.product([[], self.ONE, self.OTHER], repeat=2):
            kept = copy.deepcopy((one, other))
            joined(one, other)
            self.assertEqual((one, other), kept)

    def test_the_answer_is_a_list_of_its_own(self):
        for one, other in itertools.product([[], [("stop",)], [("go", 0)]], repeat=2):
            told = joined(one, other)
            kept = list(told)
            self.assertIs(type(told), list)
            told.append(("stop",))
            self.assertIsNot(told, one)
            self.assertIsNot(told, other)
            self.assertEqual(joined(one, other), kept)

    def test_later_changes_of_what_was_handed_in(self):
        one, other = [("go", 1)], [("go", 0)]
        told = joined(one, other)
        one.append(("stop",))
        other[0] = ("stop",)
        self.assertEqual(told, [("go", 1), ("go", 1)])


class TheAskersOwnTest(unittest.TestCase):
    def test_asked_again_behind_a_change_of_what_was_told(self):
        for ask in (greats_of, jumps_of):
            for rows in ([], ONE_OF_EACH, [("stop",)]):
                kept = copy.deepcopy(rows)
                told = ask(rows)
                right = list(told)
                told.append(77)
                self.assertIsNot(ask(rows), ask(rows))
                self.assertEqual(ask(rows), right)
                self.assertEqual(rows, kept)

    def test_lookers_change_nothing_and_tell_the_same(self):
        for thing in ODD_THINGS + [ONE_OF_EACH, [["stop"]], [("set", [0], 1)]]:
            kept = copy.deepcopy(thing)
            self.assertIs(is_rows(thing), is_rows(thing))
            self.assertEqual(thing, kept)

    def test_arguments_are_as_the_interface_has_them(self):
        for name, arguments in (
            ("is_rows", ["thing"]), ("greats_of", ["rows"]), ("jumps_of", ["rows"]),
            ("falls", ["row"]), ("joined", ["one", "other"]),
        ):
            self.assertEqual(list(inspect.signature(getattr(module, name)).parameters), arguments)


if __name__ == "__main__":
    unittest.main()
