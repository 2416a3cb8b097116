"""Tests of nearpool.texts: point [17], and what [2] and [3] say of it."""

import copy
import inspect
import random
import re
import unittest

from nearpool import texts as module
from nearpool.errors import BadText
from nearpool.laying import laid_cells
from nearpool.reading import read_back
from nearpool.rows import joined
from nearpool.texts import rows_from, text_from
from things import TOP, rows_by_chance

# Texts and their rows, worked out by hand.
RIGHT = [
    ("", []),
    ("stop", [("stop",)]),
    ("set a 0", [("set", 0, 0)]),
    ("set e 99", [("set", 4, 99)]),
    ("set b 100", [("set", 1, 100)]),
    ("set c 99999999", [("set", 2, TOP)]),
    ("set d 10", [("set", 3, 10)]),
    ("sum a e\nless e a\ntell c", [("sum", 0, 4), ("less", 4, 0), ("tell", 2)]),
    ("sum b b\nless d d", [("sum", 1, 1), ("less", 3, 3)]),
    # Labels at the first row, at the end, of rows ahead and behind.
    ("x:\ngo x", [("go", 0)]),
    ("go x\nx:", [("go", 1)]),
    ("x:", []),
    ("x:\ny:\nz:", []),
    ("nil a x\nstop\nx:\ntell a\nnil e x", [("nil", 0, 2), ("stop",), ("tell", 0), ("nil", 4, 2)]),
    # Several for one row, and for the end; some that none goes to.
    ("x:\ny:\nz:\ngo z\ngo x\nu:\nv:\ngo v\ngo y\ngo u", [("go", 0), ("go", 0), ("go", 2), ("go", 0), ("go", 2)]),
    ("go u\nstop\nu:\nv:\nw:", [("go", 2), ("stop",)]),
    ("go v\nstop\nu:\nv:", [("go", 2), ("stop",)]),
    # Labels like the words of rows and registers, and one and eight letters long.
    ("go:\ngo go", [("go", 0)]),
    ("set:\nsum:\nless:\ntell:\nnil:\nstop:\nnil a set\ngo stop", [("nil", 0, 0), ("go", 0)]),
    ("a:\nnil a a\nb:\nnil b a\ngo b", [("nil", 0, 0), ("nil", 1, 0), ("go", 1)]),
    ("abcdefgh:\ngo abcdefgh\nzzzzzzzz:\nnil c zzzzzzzz", [("go", 0), ("nil", 2, 1)]),
    ("a:\naa:\ntell a\naaa:\ngo aa\ngo aaa\ngo a", [("tell", 0), ("go", 0), ("go", 1), ("go", 0)]),
]

# Rows that aren't so written.
WRONG = [
    "", " ", "  ", "stop ", " stop", "stop  ", "Stop", "STOP", "stop a", "stop stop", "stop\t", "stop\r", "\tstop", "sto", "stopp",
    "set", "set a", "set a ", "set  a 5", "set a  5", " set a 5", "set a 5 ", "set a 5 5", "set a b", "set f 5", "set A 5", "set 0 5",
    "set ab 5", "set a 05", "set a 00", "set a 01", "set a 000000001", "set a 100000000", "set a 123456789", "set a -1", "set a +1",
    "set a 1_0", "set a 1.0", "set a 1e3", "set a 0x1", "set a \u0663", "set a \u00b2", "set a 1\u0663", "set a ", "set\ta\t5",
    "set a,5", "set \u0430 5", "Set a 5", "seta 5", "set a5",
    "sum", "sum a", "sum a b c", "sum a f", "sum f a", "sum a 1", "sum a  b", "sum ab", "sum a A", "sum a ", "sum  a",
    "less", "less a", "less a b c", "less a f", "less g a", "less 1 a", "less a b ", "lesss a b",
    "tell", "tell ", "tell f", "tell a b", "tell 0", "tell aa", "tell a ", "tell  a", "tells a",
    "go", "go ", "go  x", "go x ", "go x y", "go X", "go 5", "go x1", "go abcdefghi", "go x:", "go \u00e9", "go x-y", "goto x",
    "nil", "nil a", "nil x", "nil a ", "nil a x y", "nil f x", "nil a X", "nil a 5", "nil a abcdefghi", "nil a  x", "nil  a x", "nil a x:",
    ":", "::", "x::", " x:", "x :", "x: ", "x:y", "X:", "x1:", "1:", "abcdefghi:", "\u00e9:", "x y:", "x:\t", "-:", "x", "a", "set a 5:",
    "go x: stop", "nop", "halt", "~", "#", "# stop", "0",
]


def fault_in_words(text):
    """The number of the row that is at fault, by the words of [17], or None."""
    number, letter, label = "(?:0|[1-9][0-9]{0,7})", "[a-e]", "[a-z]{1,8}"
    forms = [
        f"set {letter} {number}", f"(?:sum|less) {letter} {letter}", f"tell {letter}", f"go {label}", f"nil {letter} {label}",
        "stop", f"{label}:",
    ]
    lines = text.split("\n") if text else []
    labels = []
    for at, line in enumerate(lines):
        if not any(re.fullmatch(form, line) for form in forms) or (line[-1] == ":" and line in labels):
            return at
        labels += [line] if line[-1] == ":" else []
    for at, line in enumerate(lines):
        if line[:3] in ("go ", "nil") and line[-1] != ":" and line.split(" ")[-1] + ":" not in labels:
            return at
    return None


def rows_in_words(text):
    """The rows of a text without faults."""
    lines = text.split("\n") if text else []
    goals = {line[:-1]: sum(other[-1] != ":" for other in lines[:at]) for at, line in enumerate(lines) if line[-1] == ":"}
    rows = []
    for line in lines:
        word, *parts = line.split(" ")
        if line[-1] != ":":
            if word in ("go", "nil"):
                parts[-1] = goals[parts[-1]]
            if word == "set":
                parts[-1] = int(parts[-1])
            rows.append((word, *["abcde".index(part) if type(part) is str else part for part in parts]))
    return rows


class TextsTest(unittest.TestCase):
    def refuses(self, text, row):
        with self.assertRaises(BadText, msg=text) as caught:
            rows_from(text)
        self.assertIs(type(caught.exception), BadText)
        self.assertEqual(repr(caught.exception.row), repr(row), text)

    def tells(self, text, rows):
        self.assertEqual(repr(rows_from(text)), repr(rows), text)


class RowsFromTest(TextsTest):
    def test_by_hand(self):
        for text, rows in RIGHT:
            with self.subTest(text=text):
                self.tells(text, rows)
                self.assertIsNone(fault_in_words(text))
                self.assertEqual(rows_in_words(text), rows)

    def test_each_register(self):
        for r, letter in enumerate("abcde"):
            self.tells(f"set {letter} 7", [("set", r, 7)])
            self.tells(f"tell {letter}", [("tell", r)])
            self.tells(f"nil {letter} x\nx:", [("nil", r, 1)])
            for s, other in enumerate("abcde"):
                self.tells(f"sum {letter} {other}\nless {letter} {other}", [("sum", r, s), ("less", r, s)])

    def test_each_figure(self):
        for number in (*range(0, 120), 1000, 9999, 10000, 12345678, 98765432, 90000000, TOP):
            self.tells(f"set a {number}", [("set", 0, number)])

    def test_each_letter_in_labels(self):
        for letter in "abcdefghijklmnopqrstuvwxyz":
            for many in range(1, 9):
                label = letter * many
                self.tells(f"tell a\n{label}:\ngo {label}", [("tell", 0), ("go", 1)])
            self.refuses(f"tell a\n{letter * 9}:", 1)
            self.refuses(f"tell a\n{letter.upper()}:", 1)

    def test_each_row_that_is_not_so_written(self):
        for line in WRONG:
            with self.subTest(line=line):
                self.assertEqual(fault_in_words(f"stop\n{line}\nstop"), 1)
                self.refuses(f"stop\n{line}\nstop", 1)
                self.refuses(f"{line}\nstop", 0)
                self.refuses(f"x:\nstop\n{line}", 2)
                if line:
                    self.refuses(line, 0)

    def test_signs_around_the_letters_and_figures(self):
        for code in [*range(0, 300), 0x660, 0x966, 0xff10, 0xff41, 0x430, 0x212a, 0x17f, 0x2028, 0x2029, 0xd800]:
            sign = chr(code)
            for text in (f"go {sign}\n{sign}:", f"set a 1{sign}", f"set {sign} 1", f"tell {sign}", f"stop{sign}", f"{sign}stop",
                         f"set a{sign}1", f"x{sign}:", f"tell a{sign}stop"):
                fault = fault_in_words(text)
                if fault is None:
                    self.tells(text, rows_in_words(text))
                else:
                    self.refuses(text, fault)

    def test_an_empty_row_anywhere(self):
        self.refuses("\n", 0)
        self.refuses("\n\n", 0)
        self.refuses("\nstop", 0)
        self.refuses("stop\n", 1)
        self.refuses("stop\n\n", 1)
        self.refuses("stop\n\nstop", 1)
        self.refuses("x:\n", 1)

    def test_only_line_feeds_part_rows(self):
        for sign in ("\r", "\r\n", "\x0b", "\x0c", "\x1c", "\x85", "\u2028"):
            self.refuses(f"stop{sign}stop", 0)

    def test_a_label_that_one_ahead_has(self):
        self.refuses("x:\nx:", 1)
        self.refuses("x:\nstop\ny:\nx:\nstop", 3)
        self.refuses("x:\ny:\ny:\nx:", 2)
        self.refuses("stop\nstop:\nstop\nstop:", 3)
        self.tells("x:\nxx:\nxxx:", [])

    def test_a_label_that_no_row_has(self):
        self.refuses("go x", 0)
        self.refuses("nil a x", 0)
        self.refuses("y:\nstop\ngo y\nnil b x\ngo z", 3)
        self.refuses("go xx\nx:", 0)
        self.refuses("go x\nxx:", 0)
        self.refuses("go stop\nstop", 0)
        self.refuses("x:\nnil a a", 1)
        self.refuses("nil x x\nx:", 0)

    def test_several_faults_at_once(self):
        # One that isn't so written, or a label anew, goes ahead of a label that no row has, wherever they stand.
        self.refuses("go x\nstop\nnope", 2)
        self.refuses("go x\ny:\ny:", 2)
        self.refuses("go x\ny:\ny:\nnope", 2)
        self.refuses("go x\nnope\ny:\ny:", 1)
        self.refuses("nope\ngo x\ny:\ny:", 0)
        self.refuses("y:\ngo x\ny:\nset a 01\n", 2)
        self.refuses("y:\nset a 01\ny:\ngo x", 1)
        self.refuses("go u\nnil a v\ngo w", 0)
        self.refuses("w:\ngo w\nnil a v\ngo u", 2)
        # A row that isn't so written has no label by which another might go.
        self.refuses("go x\nx: ", 1)
        self.refuses("x:\nx :\nx:", 1)

    def test_many_rows_beyond_the_bounds(self):
        self.tells("\n".join(["stop"] * 3000), [("stop",)] * 3000)
        self.tells("\n".join(["set a 12345"] * 700 + ["z:", "go z"]), [("set", 0, 12345)] * 700 + [("go", 700)])
        self.refuses("\n".join(["stop"] * 3000 + ["go z"]), 3000)

    def test_by_chance_against_the_words(self):
        chance = random.Random(8)
        right = 0
        lines = ["stop", "tell a", "x:", "y:", "zz:", "go:", "go x", "go y", "go go", "nil a zz", "nil e x", "set a 0", "set b 70000",
                 "sum a b", "less d e"]
        for seed in range(8000):
            many = chance.randrange(9)
            some = [chance.choice(lines if chance.randrange(12) else WRONG) for one in range(many)]
            text = "\n".join(some)
            fault = fault_in_words(text)
            if fault is None:
                right += 1
                self.tells(text, rows_in_words(text))
            else:
                self.refuses(text, fault)
        self.assertGreater(right, 1000)

    def test_one_sign_otherwise(self):
        chance = random.Random(9)
        for text, rows in RIGHT:
            for at in range(len(text) + 1):
                for sign in ("", " ", "\n", ":", "a", "f", "0", "1", "A", chance.choice("bcdezkq~!-")):
                    for other in (text[:at] + sign + text[at:], text[:at] + sign + text[at + 1:]):
                        fault = fault_in_words(other)
                        if fault is None:
                            self.tells(other, rows_in_words(other))
                        else:
                            self.refuses(other, fault)


class TextFromTest(TextsTest):
    def writes(self, rows, text):
        self.assertEqual(text_from(rows), text)
        self.tells(text, rows)

    def test_by_hand(self):
        self.writes([], "")
        self.writes([("stop",)], "stop")
        self.writes([("set", 0, 0), ("set", 4, TOP), ("sum", 1, 2), ("less", 3, 0), ("tell", 4)],
                    "set a 0\nset e 99999999\nsum b c\nless d a\ntell e")
        self.writes([("go", 0)], "aa:\ngo aa")
        self.writes([("go", 1)], "go ab\nab:")
        self.writes([("nil", 2, 1), ("go", 0)], "aa:\nnil c ab\nab:\ngo aa")
        self.writes([("nil", 2, 2), ("go", 2)], "nil c ac\ngo ac\nac:")
        self.writes([("go", 1), ("go", 1), ("stop",)], "go ab\nab:\ngo ab\nstop")

    def test_letters(self):
        many = 120
        for t, label in ((0, "aa"), (1, "ab"), (25, "az"), (26, "ba"), (27, "bb"), (51, "bz"), (52, "ca"), (119, "ep"), (120, "eq")):
            rows = [("tell", 0)] * (many - 1) + [("go", t)]
            lines = ["tell a"] * (many - 1) + [f"go {label}"]
            lines.insert(t, f"{label}:")
            self.writes(rows, "\n".join(lines))

    def test_letters_of_as_many_rows_as_a_text_may_have(self):
        for t, label in ((239, "jf"), (599, "xb"), (675, "zz")):
            rows = [("stop",)] * 675 + [("go", t)]
            self.assertEqual(text_from(rows).split("\n")[t], f"{label}:")
            self.tells(text_from(rows), rows)

    def test_rows_read_back_of_a_thousand_cells(self):
        rows = read_back([0] * 500 + [6999] + [0] * 499)
        self.assertEqual(len(rows), 1000)
        self.tells(text_from(rows), rows)
        rows = [("go", at) for at in range(1000)]
        self.tells(text_from(rows), rows)
        self.tells(text_from(read_back(laid_cells(rows, list(range(1000)), ([], [])))), rows)

    def test_back_and_forth(self):
        for seed in range(150):
            rows, longs = rows_by_chance(seed, seed, 1 + seed % 7, seed % 7)
            text = text_from(rows)
            self.tells(text, rows)
            self.assertEqual(text_from(rows_from(text)), text)
            self.assertIsNone(fault_in_words(text))
            goals = {row[-1] for row in rows if row[0] in ("go", "nil")}
            self.assertEqual(text.count(":"), len(goals))
            both = joined(rows, rows)
            self.tells(text_from(both), both)

    def test_whatever_the_labels_were(self):
        for text, rows in RIGHT:
            self.tells(text_from(rows_from(text)), rows)


class TheAskersOwnTest(TextsTest):
    def test_nothing_is_changed_and_answers_are_the_askers_own(self):
        for text, rows in RIGHT:
            told = rows_from(text)
            self.assertIsNot(told, rows_from(text))
            told.append(("go", 9))
            self.tells(text, rows)
            handed = copy.deepcopy(rows)
            text_from(handed)
            self.assertEqual(handed, rows)

    def test_a_refusal_leaves_nothing_behind(self):
        for text, row in (("x:\nx:", 1), ("go x", 0), ("x:\nnope", 1)):
            for again in range(2):
                self.refuses(text, row)
                self.tells("x:\ngo x", [("go", 0)])

    def test_kinds(self):
        self.assertIs(type(rows_from("stop")), list)
        self.assertIs(type(rows_from("stop")[0]), tuple)
        self.assertIs(type(text_from([])), str)

    def test_arguments_are_as_the_interface_has_them(self):
        for name, arguments in (("rows_from", ["text"]), ("text_from", ["rows"])):
            self.assertEqual(list(inspect.signature(getattr(module, name)).parameters), arguments)


if __name__ == "__main__":
    unittest.main()
