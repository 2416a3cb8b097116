"""Tests of nearpool.plainrun: point [5], and what [2] and [3] say of it."""

import copy
import inspect
import itertools
import unittest

from nearpool.plainrun import told_plainly
from nearpool.rows import joined

TOP = 99999999


def held_behind(rows):
    """What the registers hold behind these rows, which neither jump nor stop."""
    told, end, went = told_plainly(rows + [("tell", r) for r in range(5)], 2000)
    return told[-5:]


def by_the_words(rows, most):
    """The run by the words of the point, written apart from the program."""
    held, told, went, at = {r: 0 for r in range(5)}, [], [], 0
    for step in range(most):
        if at == len(rows):
            break
        went.append(at)
        word, *parts = rows[at]
        at += 1
        if word == "stop":
            return told, "stopped", went
        if word == "tell":
            told.append(held[parts[0]])
        if word == "set":
            held[parts[0]] = parts[1]
        if word in ("sum", "less"):
            both = held[parts[1]] if word == "sum" else 100000000 - held[parts[1]]
            held[parts[0]] = (held[parts[0]] + both) % 100000000
        if word == "go":
            at = parts[0]
        if word == "nil" and not held[parts[0]]:
            at = parts[1]
    return told, "ended" if at == len(rows) else "going", went


class EachRowTest(unittest.TestCase):
    def test_registers_hold_nought_at_first(self):
        self.assertEqual(held_behind([]), [0, 0, 0, 0, 0])

    def test_set(self):
        for r, n in itertools.product(range(5), (0, 1, 99, 100, 101, TOP)):
            self.assertEqual(held_behind([("set", r, 7), ("set", r, n)]), [n if at == r else 0 for at in range(5)])

    def test_sum_of_two(self):
        rows = [("set", 1, 30), ("set", 2, 12), ("sum", 1, 2)]
        self.assertEqual(held_behind(rows), [0, 42, 12, 0, 0])

    def test_sum_by_its_rest(self):
        for one, other, rest in ((TOP, 1, 0), (TOP, 2, 1), (TOP, TOP, TOP - 1), (TOP - 1, 1, TOP), (0, 0, 0)):
            rows = [("set", 0, one), ("set", 4, other), ("sum", 0, 4)]
            self.assertEqual(held_behind(rows), [rest, 0, 0, 0, other])

    def test_less_of_two(self):
        rows = [("set", 3, 30), ("set", 0, 12), ("less", 3, 0)]
        self.assertEqual(held_behind(rows), [12, 0, 0, 18, 0])

    def test_less_by_its_rest(self):
        for one, other, rest in ((0, 1, TOP), (0, TOP, 1), (5, 7, TOP - 1), (TOP, TOP, 0), (TOP, 0, TOP)):
            rows = [("set", 2, one), ("set", 1, other), ("less", 2, 1)]
            self.assertEqual(held_behind(rows), [0, other, rest, 0, 0])

    def test_a_register_with_itself(self):
        for n, twice in ((0, 0), (7, 14), (49999999, TOP - 1), (50000000, 0), (TOP, TOP - 1)):
            self.assertEqual(held_behind([("set", 2, n), ("sum", 2, 2)]), [0, 0, twice, 0, 0])
            self.assertEqual(held_behind([("set", 2, n), ("less", 2, 2)]), [0, 0, 0, 0, 0])

    def test_tell(self):
        rows = [("tell", 1), ("set", 1, 100), ("tell", 1), ("tell", 1), ("tell", 0)]
        self.assertEqual(told_plainly(rows, 5), ([0, 100, 100, 0], "ended", [0, 1, 2, 3, 4]))

    def test_stop(self):
        rows = [("tell", 0), ("stop",), ("tell", 0)]
        self.assertEqual(told_plainly(rows, 2000), ([0], "stopped", [0, 1]))
        self.assertEqual(told_plainly([("stop",)], 1), ([], "stopped", [0]))

    def test_go_ahead_and_back(self):
        rows = [("go", 3), ("tell", 0), ("stop",), ("set", 0, 8), ("go", 1)]
        self.assertEqual(told_plainly(rows, 2000), ([8], "stopped", [0, 3, 4, 1, 2]))

    def test_go_to_itself(self):
        self.assertEqual(told_plainly([("go", 0)], 4), ([], "going", [0, 0, 0, 0]))
        self.assertEqual(told_plainly([("nil", 0, 0)], 3), ([], "going", [0, 0, 0]))

    def test_go_to_the_following(self):
        self.assertEqual(told_plainly([("go", 1), ("stop",)], 9), ([], "stopped", [0, 1]))

    def test_go_to_the_end(self):
        self.assertEqual(told_plainly([("go", 2), ("stop",)], 9), ([], "ended", [0]))
        self.assertEqual(told_plainly([("nil", 4, 2), ("stop",)], 9), ([], "ended", [0]))

    def test_nil_where_it_holds_nought(self):
        for r in range(5):
            rows = [("nil", r, 2), ("stop",), ("tell", r)]
            self.assertEqual(told_plainly(rows, 9), ([0], "ended", [0, 2]))

    def test_nil_where_it_does_not(self):
        for r, n in itertools.product(range(5), (1, 100, TOP)):
            rows = [("set", r, n), ("nil", r, 0), ("tell", r)]
            self.assertEqual(told_plainly(rows, 9), ([n], "ended", [0, 1, 2]))

    def test_nil_looks_at_its_own_register(self):
        rows = [("set", 0, 1), ("nil", 1, 3), ("stop",), ("tell", 0)]
        self.assertEqual(told_plainly(rows, 9), ([1], "ended", [0, 1, 3]))

    def test_nil_behind_a_rest_of_nought(self):
        rows = [("set", 0, TOP), ("set", 1, 1), ("sum", 0, 1), ("nil", 0, 5), ("stop",), ("tell", 1)]
        self.assertEqual(told_plainly(rows, 9), ([1], "ended", [0, 1, 2, 3, 5]))

    def test_a_loop_that_counts_down(self):
        rows = [("set", 0, 3), ("set", 1, 1), ("nil", 0, 6), ("tell", 0), ("less", 0, 1), ("go", 2), ("tell", 1)]
        went = [0, 1] + [2, 3, 4, 5] * 3 + [2, 6]
        self.assertEqual(told_plainly(rows, 2000), ([3, 2, 1, 1], "ended", went))


class EndTest(unittest.TestCase):
    def test_no_rows_at_all(self):
        for most in (0, 1, 2000):
            self.assertEqual(told_plainly([], most), ([], "ended", []))

    def test_most_of_nought(self):
        for row in (("stop",), ("go", 1), ("go", 0), ("tell", 0)):
            self.assertEqual(told_plainly([row], 0), ([], "going", []))

    def test_the_end_is_next_though_so_many_are_done(self):
        rows = [("tell", 0), ("tell", 1)]
        self.assertEqual(told_plainly(rows, 2), ([0, 0], "ended", [0, 1]))
        self.assertEqual(told_plainly(rows, 3), ([0, 0], "ended", [0, 1]))
        self.assertEqual(told_plainly(rows, 1), ([0], "going", [0]))

    def test_a_jump_to_the_end_as_the_last_that_may_be_done(self):
        for jump in (("go", 3), ("nil", 0, 3)):
            rows = [("tell", 0), jump, ("stop",)]
            self.assertEqual(told_plainly(rows, 2), ([0], "ended", [0, 1]))
            self.assertEqual(told_plainly(rows, 1), ([0], "going", [0]))

    def test_a_stop_as_the_last_that_may_be_done(self):
        rows = [("tell", 0), ("stop",)]
        self.assertEqual(told_plainly(rows, 2), ([0], "stopped", [0, 1]))
        self.assertEqual(told_plainly(rows, 1), ([0], "going", [0]))

    def test_a_stop_in_the_last_row_is_not_ended(self):
        self.assertEqual(told_plainly([("stop",)], 2000)[1], "stopped")

    def test_many_rows(self):
        rows = [("set", 1, 1), ("sum", 0, 1), ("tell", 0), ("go", 1)]
        for most in (1998, 1999, 2000):
            told, end, went = told_plainly(rows, most)
            self.assertEqual(end, "going")
            self.assertEqual(went, ([0] + [1, 2, 3] * 700)[:most])
            self.assertEqual(told, list(range(1, went.count(2) + 1)))

    def test_just_so_many_up_to_the_most(self):
        rows = [("set", 0, 499), ("set", 1, 1), ("nil", 0, 6), ("less", 0, 1), ("go", 2), ("stop",)]
        ended = told_plainly(rows, 2000)
        self.assertEqual(ended[1:], ("ended", [0, 1] + [2, 3, 4] * 499 + [2]))
        done = len(ended[2])
        self.assertEqual(told_plainly(rows, done), ended)
        self.assertEqual(told_plainly(rows, done - 1)[1], "going")

    def test_a_longer_most_begins_alike(self):
        rows = [("set", 0, 100), ("tell", 0), ("sum", 0, 0), ("go", 1)]
        whole = told_plainly(rows, 300)
        for most in range(300):
            told, end, went = told_plainly(rows, most)
            self.assertEqual((told, end, went), (whole[0][:len(told)], "going", whole[2][:most]))


class WholeTest(unittest.TestCase):
    def test_short_lists_against_the_words_of_the_point(self):
        goals = (0, 1, 3)
        some = [("set", 0, 1), ("set", 1, TOP), ("sum", 0, 1), ("less", 1, 0), ("tell", 0), ("tell", 1), ("stop",)]
        some += [("go", t) for t in goals] + [("nil", r, t) for r in (0, 1) for t in goals]
        for rows in itertools.product(some, repeat=3):
            for most in (0, 1, 2, 3, 4, 7):
                self.assertEqual(told_plainly(list(rows), most), by_the_words(list(rows), most), (rows, most))

    def test_joined_rows_go_on_where_the_first_ended(self):
        first = [("set", 0, 5), ("nil", 1, 3), ("stop",)]
        second = [("nil", 0, 3), ("tell", 0), ("go", 4), ("stop",)]
        self.assertEqual(told_plainly(joined(first, second), 9), ([5], "ended", [0, 1, 3, 4, 5]))

    def test_kinds(self):
        answer = told_plainly([("tell", 0)], 1)
        self.assertIs(type(answer), tuple)
        self.assertEqual([type(part) for part in answer], [list, str, list])

    def test_what_is_told_is_the_askers_own(self):
        for rows in ([], [("tell", 0)], [("tell", 1), ("stop",)], [("tell", 0), ("go", 0)]):
            for most in (0, 1, 5):
                kept = copy.deepcopy(rows)
                answer = told_plainly(rows, most)
                right = copy.deepcopy(answer)
                self.assertIsNot(answer[0], answer[2])
                answer[0].append(7)
                answer[2].append(8)
                self.assertEqual(told_plainly(rows, most), right)
                self.assertEqual(rows, kept)

    def test_later_changes_of_what_was_handed_in(self):
        rows = [("tell", 0), ("stop",)]
        answer = told_plainly(rows, 5)
        rows.clear()
        self.assertEqual(answer, ([0], "stopped", [0, 1]))

    def test_arguments_are_as_the_interface_has_them(self):
        self.assertEqual(list(inspect.signature(told_plainly).parameters), ["rows", "most"])


if __name__ == "__main__":
    unittest.main()
