"""Tests of nearpool.growing: point [12], and what [1] and [2] say of it."""

import copy
import inspect
import itertools
import unittest

from nearpool import growing as module
from nearpool.growing import least_longs, settled, too_short
from nearpool.places import is_plan
from nearpool.pooling import pools_for
from things import lists_in, rows_by_chance, too_short_in_words

TELL = ("tell", 0)
PUSHED = [("go", 2), ("go", 4), TELL, TELL]
LATER = [("nil", 0, 2), ("set", 0, 1000), TELL]


class TooShortTest(unittest.TestCase):
    def tells(self, rows, longs, pools, hop, right):
        self.assertEqual(repr(too_short(rows, longs, pools, hop)), repr(right), (rows, longs, pools, hop))

    def test_no_jump(self):
        self.tells([], [], [], 0, [])
        self.tells([TELL, ("set", 0, 1000), ("stop",)], [], [(3, (1000,))], 0, [])

    def test_at_the_hop_and_one_beyond(self):
        for step in (1, 2, 50, 98, 99):
            for jump in (("go", step), ("nil", 3, step)):
                ahead = [jump] + [TELL] * step
                self.tells(ahead, [], [], step, [])
                self.tells(ahead, [], [], step - 1, [0])
                to_the_end = [jump] + [TELL] * (step - 1)
                self.tells(to_the_end, [], [], step, [])
                self.tells(to_the_end, [], [], step - 1, [0])
                back = [TELL] * step + [jump[:-1] + (0,)]
                self.tells(back, [], [], step, [])
                self.tells(back, [], [], step - 1, [step])

    def test_a_nil_farther_than_99(self):
        for hop in (100, 101, 499):
            for goal in (100, 101):
                right = [0] if goal == 101 else []
                self.tells([("go", goal)] + [TELL] * goal, [], [], min(hop, 100), right)
                self.tells([("nil", 4, goal)] + [TELL] * goal, [], [], hop, [0])
                self.tells([("nil", 4, goal)] + [TELL] * (goal - 1), [], [], hop, [0])
                self.tells([TELL] * goal + [("nil", 0, 0)], [], [], hop, [goal])
            self.tells([("nil", 4, 99)] + [TELL] * 99, [], [], hop, [])
            self.tells([("nil", 4, 99)] + [TELL] * 98, [], [], hop, [])
            self.tells([TELL] * 99 + [("nil", 0, 0)], [], [], hop, [])

    def test_the_greatest_hop(self):
        # The first words of a pool at gap 1 at 2: row 1 at 202. A pool at gap 2 behind it pushes row 2 to 408.
        hundred, more = tuple(range(100, 200)), tuple(range(200, 300))
        rows = [("go", 3), TELL, TELL, TELL]
        self.tells(rows, [], [(1, hundred), (2, more)], 499, [])
        pools = [(1, hundred), (2, more), (3, tuple(range(300, 342)))]
        # Over 203 and 204, head 205, words 206 to 405, row 2 at 406, over 407 and 408, head 409, 42 words, row 3 at 494.
        self.tells(rows, [], pools, 494, [])
        self.tells(rows, [], pools, 493, [0])
        self.tells(rows, [], pools[:2] + [(3, tuple(range(300, 345)))], 499, [0])
        self.tells(rows, [], pools[:2] + [(3, tuple(range(300, 344)))], 499, [])

    def test_to_itself(self):
        self.tells([("go", 0)], [], [], 0, [])
        self.tells([TELL, ("nil", 0, 1)], [], [], 0, [])
        self.tells([("go", 1)], [], [], 0, [0])

    def test_long_ones_are_not_told(self):
        rows = [("go", 3), ("nil", 0, 0), ("go", 0)]
        self.tells(rows, [], [], 0, [0, 1, 2])
        self.tells(rows, [1], [], 0, [0, 2])
        self.tells(rows, [0, 2], [], 0, [1])
        self.tells(rows, [0, 1, 2], [], 0, [])

    def test_long_ones_between_push(self):
        rows = [("go", 3), ("nil", 0, 0), ("go", 0), ("go", 1)]
        # Places 0, 1, 2, 3 and the end at 4.
        self.tells(rows, [], [], 2, [0])
        self.tells(rows, [], [], 3, [])
        # Places 0, 1, 3, 5 and the end at 6.
        self.tells(rows, [1, 2], [], 3, [0, 3])
        self.tells(rows, [1, 2], [], 4, [0])
        self.tells(rows, [1, 2], [], 5, [])

    def test_great_rows_between_push(self):
        rows = [("go", 2), ("set", 0, 100), ("go", 1), ("nil", 0, 4)]
        # Places 0, 1, 3, 4 and the end at 5.
        self.tells(rows, [], [], 2, [0])
        self.tells(rows, [], [], 1, [0, 2])
        self.tells(rows, [], [], 0, [0, 2, 3])

    def test_pools_between_push(self):
        rows = [("go", 2), TELL, ("go", 1), ("nil", 0, 0)]
        self.tells(rows, [], [], 2, [3])
        # No over behind the go: head 1, word 2 and 3, row 1 at 4, row 2 at 5, row 3 at 6.
        self.tells(rows, [], [(1, (100,))], 4, [0, 3])
        self.tells(rows, [], [(1, (100,))], 5, [3])
        self.tells(rows, [], [(1, (100,))], 6, [])
        # Ahead of all rows a pool pushes all alike.
        self.tells(rows, [], [(0, (100,))], 2, [3])
        self.tells(rows, [], [(0, (100,))], 3, [])

    def test_a_row_gone_to_is_behind_the_pool_at_its_gap(self):
        # Over 2 and 3, pad 4, head 5, word 6 and 7, row 2 at 8.
        self.tells([("nil", 0, 2), TELL, TELL], [], [(2, (100,))], 7, [0])
        self.tells([("nil", 0, 2), TELL, TELL], [], [(2, (100,))], 8, [])

    def test_the_end_is_behind_the_last_pool(self):
        self.tells([("nil", 0, 2), TELL], [], [(2, (100, 200))], 9, [0])
        self.tells([("nil", 0, 2), TELL], [], [(2, (100, 200))], 10, [])

    def test_against_the_words(self):
        for seed in range(80):
            rows, longs = rows_by_chance(seed, 3 + seed % 60, 3, 2)
            pools = [(gap, tuple(range(100, 100 + gap % 4 + 1))) for gap in range(seed % 5, len(rows) + 1, 2 + seed % 7)]
            for hop in (0, 1, 3, 8, 30, 99, 100, 130, 499):
                self.tells(rows, longs, pools, hop, too_short_in_words(rows, longs, pools, hop))


class LeastLongsTest(unittest.TestCase):
    def tells(self, rows, hop, right):
        self.assertEqual(repr(least_longs(rows, hop)), repr(right), (rows, hop))

    def test_none(self):
        self.tells([], 0, [])
        self.tells([TELL, ("set", 0, 1000), ("stop",)], 0, [])
        self.tells([("go", 0), ("nil", 0, 1)], 0, [])
        self.tells([("go", 2), TELL], 2, [])

    def test_one_by_itself(self):
        self.tells([("go", 2), TELL], 1, [0])
        self.tells([("nil", 0, 100)] + [TELL] * 100, 499, [0])
        self.tells([("nil", 0, 99)] + [TELL] * 99, 499, [])

    def test_one_that_is_long_makes_another_too_short(self):
        # Row 1 is three ahead of the end; as it grows, row 2 is three behind row 0.
        self.tells(PUSHED, 3, [])
        self.tells(PUSHED, 2, [0, 1])
        # Only then row 2 is too far from row 0; the first step makes 1 long alone.
        self.assertEqual(too_short(PUSHED, [], [], 2), [1])

    def test_a_chain(self):
        # Each go is two ahead of its goal; the last one is three, and each that grows makes the one ahead of it three.
        rows = [("go", at + 2) for at in range(9)] + [("go", 12), TELL, TELL]
        self.tells(rows, 3, [])
        self.tells(rows, 2, list(range(10)))

    def test_one_long_between_but_still_near_enough(self):
        rows = [("go", 2), ("go", 5), TELL, TELL, TELL]
        self.tells(rows, 3, [1])

    def test_the_end_is_pushed_too(self):
        rows = [("go", 3), ("go", 0), TELL]
        self.tells(rows, 3, [])
        self.tells(rows, 2, [0])
        self.tells(rows, 1, [0, 1])
        # Row 0 grows, and so row 1 is two behind it.
        self.assertEqual(too_short(rows, [], [], 1), [0])

    def test_against_a_trial_of_all_sets_of_jumps(self):
        sizes = set()
        for seed in range(150):
            rows, longs = rows_by_chance(seed, 2 + seed % 13, 2, 2)
            jumps = [at for at, row in enumerate(rows) if row[0] in ("go", "nil")]
            if len(jumps) > 7:
                continue
            for hop in (0, 1, 2, 3, 4, 5, 7):
                doing = []
                for many in range(len(jumps) + 1):
                    for chosen in itertools.combinations(jumps, many):
                        if not too_short_in_words(rows, chosen, [], hop):
                            doing.append(set(chosen))
                least = least_longs(rows, hop)
                self.assertIn(set(least), doing, (rows, hop))
                self.assertTrue(all(set(least) <= other for other in doing), (rows, hop))
                self.assertEqual(least, sorted(set(least)))
                sizes.add((len(jumps), len(least)))
        self.assertGreater(len(sizes), 20)

    def test_many_rows(self):
        rows = [("go", (at * 7 + 3) % 121) for at in range(120)]
        told = least_longs(rows, 30)
        self.assertEqual(too_short_in_words(rows, told, [], 30), [])
        for at in told:
            # Without any one of them it doesn't do.
            self.assertTrue(too_short_in_words(rows, [other for other in told if other != at], [], 30))
        self.assertTrue(0 < len(told) < 120)


def settled_in_words(rows, reach, hop):
    longs = []
    while True:
        plan = pools_for(rows, longs, reach)
        more = too_short_in_words(rows, longs, plan[0], hop)
        if not more:
            return (longs, plan)
        longs = sorted(longs + more)


class SettledTest(unittest.TestCase):
    def tells(self, rows, reach, hop, right):
        self.assertEqual(repr(settled(rows, reach, hop)), repr(right), (rows, reach, hop))

    def test_nothing_to_settle(self):
        self.tells([], (0, 6), 0, ([], ([], [])))
        self.tells([TELL, ("stop",)], (0, 6), 0, ([], ([], [])))
        self.tells([("set", 0, 1000)], (0, 6), 0, ([], ([(1, (1000,))], [0])))

    def test_without_great_rows(self):
        self.tells(PUSHED, (0, 6), 2, ([0, 1], ([], [])))
        self.tells(PUSHED, (0, 6), 3, ([], ([], [])))

    def test_a_jump_that_has_become_long_makes_another_too_short(self):
        # The pool is at the last gap: set at 4 and 5, over 6 and 7, pad 8, head 9, word 10 and 11, the end at 12.
        rows = PUSHED + [("set", 0, 1000)]
        self.tells(rows, (0, 6), 2, ([0, 1], ([(5, (1000,))], [0])))
        self.tells(rows, (0, 6), 3, ([], ([(5, (1000,))], [0])))

    def test_a_pool_makes_a_jump_too_short(self):
        # The nil at 0, the set at 1, over 3 and 4, head 5, word 6 and 7, the tell at 8.
        self.tells(LATER, (0, 6), 8, ([], ([(2, (1000,))], [0])))
        # The nil grows: the set at 2; behind the tell over 5 and 6, head 7, word 8. So the pool comes a gap later,
        # and the nil, now four ahead of the tell, is long all the same.
        self.tells(LATER, (0, 6), 7, ([0], ([(3, (1000,))], [0])))
        self.tells(LATER, (0, 6), 4, ([0], ([(3, (1000,))], [0])))
        self.tells(LATER, (0, 6), 0, ([0], ([(3, (1000,))], [0])))
        # Without the pool it needn't be long.
        self.assertEqual(least_longs(LATER, 4), [])

    def test_a_jump_that_grows_moves_a_pool(self):
        # Set 0, nil 2, go 3, behind which there is no over: pad 4, head 5, word 6 and 7, row 3 at 8.
        rows = [("set", 0, 1000), ("nil", 0, 3), ("go", 3), ("tell", 0)]
        self.tells(rows, (0, 6), 6, ([], ([(3, (1000,))], [0])))
        # The nil is six ahead of row 3, the go five. Behind a nil that is long the first word would be at 8:
        # so the pool comes to gap 1, and now both jumps would be near enough; what is long stays so.
        self.tells(rows, (0, 6), 5, ([1], ([(1, (1000,))], [0])))
        self.tells(rows, (0, 6), 4, ([1, 2], ([(1, (1000,))], [0])))
        # With two more ahead the pool is at the last gap from the first.
        self.tells(rows, (0, 8), 4, ([], ([(4, (1000,))], [0])))
        self.tells(rows, (0, 8), 2, ([], ([(4, (1000,))], [0])))
        # The nil two ahead of row 3 grows: go 4, tell 5, over 6 and 7, pad 8, head 9, word 10. So the pool comes to
        # gap 3: head 5, word 6 and 7, row 3 at 8, four behind the go, which grows too: pad 6, head 7, word 8.
        self.tells(rows, (0, 8), 1, ([1, 2], ([(3, (1000,))], [0])))

    def test_a_nil_grows_beyond_99(self):
        rows = [("nil", 0, 100)] + [TELL] * 99
        self.tells(rows, (0, 6), 499, ([0], ([], [])))
        self.tells(rows[:-1] + [("set", 0, 5)], (0, 6), 499, ([0], ([], [])))
        self.tells([("nil", 0, 99)] + [TELL] * 98, (0, 6), 499, ([], ([], [])))

    def test_against_the_words(self):
        steps = set()
        for seed in range(100):
            rows, longs = rows_by_chance(seed, 3 + seed, 1 + seed % 5, 1 + seed % 5)
            for reach, hop in (((0, 6), 0), ((0, 6), 9), ((8, 7), 3), ((10, 20), 30), ((60, 60), 60), ((4999, 6), 20)):
                right = settled_in_words(rows, reach, hop)
                self.tells(rows, reach, hop, right)
                self.assertEqual(too_short(rows, right[0], right[1][0], hop), [])
                self.assertIs(is_plan(rows, right[0], reach, right[1]), True)
                steps.add(len(right[0]) > len(too_short(rows, [], pools_for(rows, [], reach)[0], hop)))
        # Now and then the first step isn't enough.
        self.assertEqual(steps, {True, False})

    def test_without_pools_no_row_is_long_that_need_not_be(self):
        for seed in range(40):
            rows, longs = rows_by_chance(seed, 40, 1, 0)
            for hop in (0, 3, 9, 20, 30, 39):
                self.assertEqual(settled(rows, (0, 6), hop), (least_longs(rows, hop), ([], [])))


class TheAskersOwnTest(unittest.TestCase):
    def test_nothing_is_changed(self):
        rows, longs, pools = list(LATER), [0], [(2, (1000,))]
        kept = copy.deepcopy((rows, longs, pools))
        too_short(rows, longs, pools, 3)
        too_short(rows, [], pools, 3)
        least_longs(rows, 0)
        settled(rows, (0, 6), 0)
        self.assertEqual((rows, longs, pools), kept)

    def test_answers_are_the_askers_own(self):
        for ask in (
            lambda: too_short(PUSHED, [], [], 2), lambda: too_short(PUSHED, [0], [], 5),
            lambda: least_longs(PUSHED, 2), lambda: least_longs(PUSHED, 9), lambda: least_longs([], 9),
            lambda: settled(LATER, (0, 6), 7), lambda: settled(LATER, (0, 6), 8), lambda: settled([], (0, 6), 8),
        ):
            told = ask()
            right = copy.deepcopy(told)
            found = list(lists_in(told)) + list(lists_in(ask())) + [PUSHED, LATER]
            self.assertEqual(len({id(one) for one in found}), len(found))
            for one in lists_in(told):
                one.append(77)
            self.assertEqual(ask(), right)

    def test_later_changes_of_what_was_handed_in(self):
        rows, longs, pools = list(LATER), [], [(2, (1000,))]
        told = (too_short(rows, longs, pools, 7), least_longs(rows, 0), settled(rows, (0, 6), 7))
        kept = copy.deepcopy(told)
        for one in (rows, longs, pools):
            one.clear()
        self.assertEqual(told, kept)

    def test_kinds(self):
        told = settled(LATER, (0, 6), 7)
        self.assertEqual([type(told), type(told[0]), type(told[1])], [tuple, list, tuple])
        self.assertEqual([type(part) for part in told[1]], [list, list])
        self.assertEqual([type(told[1][0][0]), type(told[1][0][0][1])], [tuple, tuple])

    def test_arguments_are_as_the_interface_has_them(self):
        for name, arguments in (
            ("too_short", ["rows", "longs", "pools", "hop"]), ("least_longs", ["rows", "hop"]),
            ("settled", ["rows", "reach", "hop"]),
        ):
            self.assertEqual(list(inspect.signature(getattr(module, name)).parameters), arguments)


if __name__ == "__main__":
    unittest.main()
