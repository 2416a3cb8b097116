"""Tests of nearpool.desk: point [18], and what [2] and [3] say of it."""

import inspect
import random
import re
import unittest

from nearpool import desk as module
from nearpool.desk import answers
from nearpool.errors import BadText
from nearpool.growing import settled
from nearpool.laying import made
from nearpool.machine import run
from nearpool.plainrun import told_plainly
from nearpool.texts import rows_from, text_from
from things import rows_by_chance

GOOD = "reach 0 6\nhop 7\nmost 2000"
JUMP = "nil a x\nset a 1000\nx:\ntell a"
DOWN = "set a 3\nset b 1\nx:\nnil a y\ntell a\nless a b\ngo x\ny:"

# Sheets and what they are answered by, worked out by hand.
SHEETS = [
    (GOOD, "cells 0\npools\nlongs\ntold\nended"),
    ("reach 0 6\nhop 0\nmost 0", "cells 0\npools\nlongs\ntold\nended"),
    ("reach 4999 4999\nhop 499\nmost 2000", "cells 0\npools\nlongs\ntold\nended"),
    (f"{GOOD}\nstop", "cells 1\npools\nlongs\ntold\nstopped"),
    (f"{GOOD}\nx:", "cells 0\npools\nlongs\ntold\nended"),
    ("reach 0 6\nhop 7\nmost 0\nstop", "cells 1\npools\nlongs\ntold\ngoing"),
    (f"{GOOD}\n{JUMP}", "cells 10\npools 3\nlongs 0\ntold 0\nended"),
    (f"reach 0 6\nhop 8\nmost 2\n{JUMP}", "cells 9\npools 2\nlongs\ntold 0\nended"),
    (f"reach 0 6\nhop 8\nmost 1\n{JUMP}", "cells 9\npools 2\nlongs\ntold\ngoing"),
    # The nil is four ahead of the end, the go three behind row 2; and as the nil grows, four.
    (f"reach 0 6\nhop 9\nmost 2000\n{DOWN}", "cells 6\npools\nlongs\ntold 3 2 1\nended"),
    (f"reach 0 6\nhop 4\nmost 9\n{DOWN}", "cells 6\npools\nlongs\ntold 3 2\ngoing"),
    (f"reach 0 6\nhop 3\nmost 2000\n{DOWN}", "cells 8\npools\nlongs 2 5\ntold 3 2 1\nended"),
    # Great rows at 0, 8 and 16, the sum at 18, over 19 and 20, head 21, word 22 and 23, the tell at 24, the stop at 25.
    (
        "reach 0 6\nhop 0\nmost 50\nset a 1000\nset b 1000\nset a 99999999\nsum b a\ntell b\nstop",
        "cells 26\npools 1 2 4\nlongs\ntold 999\nstopped",
    ),
]


def answers_in_words(text):
    """The answer, or the number of the row at fault, by the words of [18]."""
    number = "(0|[1-9][0-9]{0,7})"
    lines = text.split("\n")
    found = []
    for at, (form, bounds) in enumerate((
        (f"reach {number} {number}", ((0, 4999), (6, 4999))), (f"hop {number}", ((0, 499),)), (f"most {number}", ((0, 2000),)),
    )):
        if at >= len(lines):
            return len(lines)
        match = re.fullmatch(form, lines[at])
        if match is None:
            return at
        found += [int(part) for part in match.groups()]
        if not all(low <= int(part) <= high for part, (low, high) in zip(match.groups(), bounds)):
            return at
    rows = []
    if len(lines) > 3:
        if lines[3] == "":
            return 3
        try:
            rows = rows_from("\n".join(lines[3:]))
        except BadText as error:
            return error.row + 3
    back, ahead, hop, most = found
    longs, (pools, uses) = settled(rows, (back, ahead), hop)
    cells = made(rows, (back, ahead), hop)
    told, end, trace = run(cells, most)
    return (
        f"cells {len(cells)}\npools" + "".join(f" {gap}" for gap, numbers in pools) + "\nlongs"
        + "".join(f" {at}" for at in longs) + "\ntold" + "".join(f" {number}" for number in told) + f"\n{end}"
    )


class DeskTest(unittest.TestCase):
    def tells(self, text, right):
        self.assertEqual(answers(text), right, text)

    def refuses(self, text, row):
        with self.assertRaises(BadText, msg=text) as caught:
            answers(text)
        self.assertIs(type(caught.exception), BadText)
        self.assertEqual(repr(caught.exception.row), repr(row), text)

    def as_in_words(self, text):
        right = answers_in_words(text)
        if isinstance(right, int):
            self.refuses(text, right)
        else:
            self.tells(text, right)
        return right


class AnswersTest(DeskTest):
    def test_by_hand(self):
        for text, right in SHEETS:
            with self.subTest(text=text):
                self.tells(text, right)
                self.assertEqual(answers_in_words(text), right)

    def test_five_rows(self):
        for text, right in SHEETS:
            told = answers(text)
            self.assertIs(type(told), str)
            self.assertEqual([line.split(" ")[0] for line in told.split("\n")[:4]], ["cells", "pools", "longs", "told"])
            self.assertEqual(len(told.split("\n")), 5)

    def test_the_ends_of_the_bounds(self):
        for back in (0, 1, 4999):
            for ahead in (6, 7, 4999):
                self.as_in_words(f"reach {back} {ahead}\nhop 5\nmost 5\nset a 1000\ntell a")
        for hop in (0, 499):
            self.assertIn("\nended", self.as_in_words(f"reach 0 6\nhop {hop}\nmost 5\n{JUMP}"))
        self.tells("reach 0 6\nhop 0\nmost 2000\nx:\ngo x", "cells 1\npools\nlongs\ntold\ngoing")

    def test_most_counts_rows(self):
        for most in range(0, 20):
            told = answers(f"reach 0 6\nhop 9\nmost {most}\n{DOWN}").split("\n")
            plainly = told_plainly(rows_from(DOWN), most)
            self.assertEqual(told[3:], [" ".join(["told", *map(str, plainly[0])]), plainly[1]])


class BoundsAndFormsTest(DeskTest):
    def test_the_first_row(self):
        for line in (
            "", "reach", "reach 0", "reach 0 ", "reach 0 6 ", " reach 0 6", "reach  0 6", "reach 0  6", "reach 0 6 7", "Reach 0 6",
            "reach 00 6", "reach 0 06", "reach -1 6", "reach 0 5", "reach 0 0", "reach 5000 6", "reach 0 5000", "reach a 6", "reach 0 b",
            "reach 1000000000000 6", "reach 123456789 6", "reach 0 123456789", "reach 0.5 6", "reach \u0663 6", "reach 0,6", "hop 5",
            "most 5", "stop", "reach:", "reach 0 6\t", "reach 0 6\r", "reach", "6 0 reach", "reach 4999 5", "reach 5 +6", "reach 0 1_0",
        ):
            with self.subTest(line=line):
                self.refuses(line, 0)
                self.refuses(f"{line}\nhop 5\nmost 5", 0)
                self.refuses(f"{line}\nhop 5\nmost 5\nstop", 0)
                # Ahead of all else.
                self.refuses(f"{line}\nhop\nmost\nnope\n", 0)
                self.refuses(f"{line}\nhop 5", 0)

    def test_the_second_row(self):
        for line in (
            "", "hop", "hop ", "hop 1 2", "hop 500", "hop 499 ", " hop 5", "hop  5", "hop 05", "hop 00", "hop -1", "hop a", "Hop 5",
            "hop 123456789", "most 5", "reach 0 6", "stop", "hop:", "hop 5\r", "hops 5", "hop \u0665", "hop 4_9",
        ):
            with self.subTest(line=line):
                self.refuses(f"reach 0 6\n{line}", 1)
                self.refuses(f"reach 0 6\n{line}\nmost 5", 1)
                self.refuses(f"reach 0 6\n{line}\nmost 5\nstop", 1)
                self.refuses(f"reach 0 6\n{line}\nmost\n\nnope", 1)

    def test_the_third_row(self):
        for line in (
            "", "most", "most ", "most 1 2", "most 2001", "most 2000 ", " most 5", "most  5", "most 05", "most 00", "most -1", "most a",
            "Most 5", "most 123456789", "hop 5", "reach 0 6", "stop", "most:", "most 5\r", "mosts 5", "most \u0665", "most 10000",
        ):
            with self.subTest(line=line):
                self.refuses(f"reach 0 6\nhop 5\n{line}", 2)
                self.refuses(f"reach 0 6\nhop 5\n{line}\nstop", 2)
                self.refuses(f"reach 0 6\nhop 5\n{line}\nnope", 2)
                self.refuses(f"reach 0 6\nhop 5\n{line}\n", 2)

    def test_rows_left_out(self):
        self.refuses("", 0)
        self.refuses("reach 0 6", 1)
        self.refuses("reach 0 6\nhop 5", 2)
        self.refuses("hop 5", 0)
        self.refuses("hop 5\nmost 5", 0)
        self.refuses("reach 0 6\nmost 5", 1)
        self.refuses("reach 0 6\nmost 5\nstop", 1)
        self.refuses("hop 5\nreach 0 6\nmost 5", 0)
        self.refuses("reach 0 6\nmost 5\nhop 5", 1)
        self.refuses("stop", 0)

    def test_empty_rows(self):
        self.refuses("\n", 0)
        self.refuses("\n\n\n", 0)
        self.refuses("reach 0 6\n", 1)
        self.refuses("reach 0 6\nhop 5\n", 2)
        self.refuses(f"{GOOD}\n", 3)
        self.refuses(f"{GOOD}\n\n", 3)
        self.refuses(f"{GOOD}\n\nstop", 3)
        self.refuses(f"{GOOD}\nstop\n", 4)
        self.refuses(f"{GOOD}\nstop\n\nstop", 4)

    def test_faults_in_the_rows_behind_all_rows_counted(self):
        self.refuses(f"{GOOD}\nnope", 3)
        self.refuses(f"{GOOD}\nstop\nset a 01\nnope", 4)
        self.refuses(f"{GOOD}\nx:\nstop\nx:", 5)
        self.refuses(f"{GOOD}\ngo x", 3)
        self.refuses(f"{GOOD}\nstop\nx:\nnil a y\ngo z", 5)
        self.refuses(f"{GOOD}\ngo x\nstop\nnope", 5)
        self.refuses(f"{GOOD}\ngo x\ny:\ny:", 5)
        # The first three are no rows of the text: they bear no label, and none is gone to among them.
        self.refuses(f"{GOOD}\ngo hop", 3)
        self.refuses(f"{GOOD}\nmost 5", 3)
        self.tells(f"{GOOD}\nhop:\ngo hop", "cells 1\npools\nlongs\ntold\ngoing")

    def test_a_refusal_leaves_nothing_behind(self):
        for text in ("", f"{GOOD}\nx:\nx:", f"{GOOD}\ngo x"):
            with self.assertRaises(BadText):
                answers(text)
            for sheet, right in SHEETS:
                self.tells(sheet, right)


class ByChanceTest(DeskTest):
    def test_sheets_with_rows_by_chance(self):
        ends = set()
        for seed in range(150):
            chance = random.Random(seed)
            rows, longs = rows_by_chance(seed, seed % 121, 1 + seed % 5, 1 + seed % 4)
            back, ahead = chance.choice([(0, 6), (3, 9), (20, 20), (100, 6), (4999, 4999)])
            hop, most = chance.choice([0, 1, 5, 30, 499]), chance.choice([0, 1, 30, 2000])
            told = self.as_in_words(f"reach {back} {ahead}\nhop {hop}\nmost {most}\n{text_from(rows)}".rstrip("\n"))
            plainly = told_plainly(rows, most)
            self.assertEqual(told.split("\n")[3:], [" ".join(["told", *map(str, plainly[0])]), plainly[1]])
            ends.add(plainly[1])
        self.assertEqual(ends, {"ended", "going", "stopped"})

    def test_sheets_with_faults_by_chance(self):
        chance = random.Random(4)
        seen = {}
        heads = [["reach 0 6", "reach 9 9"], ["hop 0", "hop 499"], ["most 0", "most 20"]]
        wrong = ["", "nope", "reach 0 5", "hop 500", "most 2001", "stop ", "x:", "go q", "most 5", "hop 5"]
        for seed in range(6000):
            lines = [chance.choice(head if chance.randrange(10) else wrong) for head in heads]
            behind = ["stop", "x:", "y:", "go x", "nil a y", "set a 5000", "tell a"]
            lines += [chance.choice(behind if chance.randrange(15) else wrong) for one in range(chance.randrange(7))]
            right = self.as_in_words("\n".join(lines[:chance.randrange(1, 11)]))
            seen[type(right)] = seen.get(type(right), 0) + 1
        self.assertGreater(min(seen[int], seen[str]), 800)


class InterfaceTest(unittest.TestCase):
    def test_arguments_are_as_the_interface_has_them(self):
        self.assertEqual(list(inspect.signature(module.answers).parameters), ["text"])


if __name__ == "__main__":
    unittest.main()
