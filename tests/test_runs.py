"""Tests of ordershown.runs: locked runs and serial runs."""

import copy
import unittest
from itertools import permutations

import runreference
from making import scripts_of
from ordershown.conflicts import ring_of, serial_order
from ordershown.recovery import breaks
from ordershown.runs import locked_run, serial_run
from ordershown.schedules import format_schedule


CROSSED = scripts_of("r(x) w(y)1", "r(y) w(x)2")

# (what it shows, scripts, weaving, the text of the schedule, the values)
RUNS = [
    ("the example of the document", CROSSED, [1, 2, 1, 2, 1], "r1(x) r2(y) a2 w1(y) c1", [("y", 1)]),
    # Empty scripts and weavings, and the turns behind the weaving.
    ("an empty script", [[]], [], "c1", []),
    ("empty scripts and turns", [[], [], []], [2], "c2 c1 c3", []),
    ("an empty weaving", scripts_of("w(x)1", "w(y)2"), [], "w1(x) w2(y) c1 c2", [("x", 1), ("y", 2)]),
    ("rounds of three", scripts_of("r(x)", "", "r(x) r(y)"), [], "r1(x) c2 r3(x) c1 r3(y) c3", []),
    ("rounds begin with 1", scripts_of("r(x)", "r(x) r(y)"), [2, 2], "r2(x) r2(y) r1(x) c2 c1", []),
    ("all turns in the weaving", scripts_of("w(x)1"), [1, 1], "w1(x) c1", [("x", 1)]),
    # Turns that are skipped, or at which nothing is done.
    ("numbers of no transaction", scripts_of("r(x)", "r(y)"), [0, 2, 3, -1, 9, 2, -2], "r2(y) c2 r1(x) c1", []),
    ("turns behind the end", scripts_of("r(x)", "r(y)"), [1, 1, 1, 1, 2], "r1(x) c1 r2(y) c2", []),
    (
        "turns while it waits", scripts_of("w(x)1 w(y)1", "r(x)"), [1, 2, 2, 2, 1, 2, 1, 2],
        "w1(x) w1(y) c1 r2(x) c2", [("x", 1), ("y", 1)],
    ),
    (
        "turns of a victim", CROSSED, [1, 2, 1, 2, 2, 2, 1],
        "r1(x) r2(y) a2 w1(y) c1", [("y", 1)],
    ),
    # A request that is granted is no step: it is made at the next turn.
    (
        "granted, and made later", scripts_of("w(x)1", "r(x) w(y)2", "w(z)5"), [1, 2, 1, 3, 3, 2],
        "w1(x) c1 w3(z) c3 r2(x) w2(y) c2", [("x", 1), ("y", 3), ("z", 5)],
    ),
    (
        "the same value once, though the call is made twice", scripts_of("w(x)3", "r(x) w(y)0"), [1, 2, 1, 2, 2, 2],
        "w1(x) c1 r2(x) w2(y) c2", [("x", 3), ("y", 3)],
    ),
    # Deadlocks: of two, of two that upgrade, of three.
    (
        "two that upgrade", scripts_of("r(x) w(x)1", "r(x) w(x)2"), [1, 2, 1, 2],
        "r1(x) r2(x) a2 w1(x) c1", [("x", 1)],
    ),
    (
        "the victim does not ask", scripts_of("r(x) w(x)1", "r(x) w(x)2"), [1, 2, 2, 1],
        "r1(x) r2(x) a2 w1(x) c1", [("x", 1)],
    ),
    (
        "three", scripts_of("w(x)1 w(y)1", "w(y)2 w(z)2", "w(z)3 w(x)3"), [1, 2, 3, 1, 2, 3],
        "w1(x) w2(y) w3(z) a3 w2(z) c2 w1(y) c1", [("x", 1), ("y", 1), ("z", 2)],
    ),
    (
        "the victim in the middle of three",
        scripts_of("w(x)1 w(y)1", "w(z)2 w(x)2", "w(y)3 w(z)3"), [1, 2, 3, 2, 3, 1],
        "w1(x) w2(z) w3(y) a3 w1(y) c1 w2(x) c2", [("x", 2), ("y", 1), ("z", 2)],
    ),
    # 1 asks for x, which 2 and 3 have read; both wait for 1.
    (
        "two deadlocks behind one request",
        scripts_of("w(y)1 w(z)1 w(x)1", "r(x) r(y)", "r(x) r(z)"), [1, 1, 2, 3, 2, 3, 1],
        "w1(y) w1(z) r2(x) r3(x) a2 a3 w1(x) c1", [("x", 1), ("y", 1), ("z", 1)],
    ),
    # 3 waits for 1 and 2, and both wait for 3.
    (
        "one victim for two deadlocks", scripts_of("r(x) r(y)", "r(x) r(y)", "w(y)3 w(x)3"), [1, 2, 3, 1, 2, 3],
        "r1(x) r2(x) w3(y) a3 r1(y) r2(y) c1 c2", [],
    ),
    # What a victim wrote is taken back.
    (
        "written several times", scripts_of("w(a)7", "r(b) w(a)1 w(a)2 r(a) w(a)3 w(b)4", "r(b) w(a)0"),
        [1, 1, 3, 2, 2, 2, 2, 2, 2, 3],
        "w1(a) c1 r3(b) r2(b) w2(a) w2(a) r2(a) w2(a) a3 w2(b) c2", [("a", 5), ("b", 6)],
    ),
    (
        "the victim wrote several times", scripts_of("w(a)7", "r(b) w(a)0", "r(b) w(a)1 w(a)2 r(a) w(a)3 w(b)4"),
        [1, 1, 2, 3, 3, 3, 3, 3, 2, 3],
        "w1(a) c1 r2(b) r3(b) w3(a) w3(a) r3(a) w3(a) a3 w2(a) c2", [],
    ),
    (
        "back to the value ahead of its first write",
        scripts_of("w(a)7", "r(b) r(a)", "r(b) w(a)1 w(a)2 w(b)4", "r(a) w(c)0"), [1, 1, 3, 2, 3, 3, 2, 3, 4],
        "w1(a) c1 r3(b) r2(b) w3(a) w3(a) a3 r4(a) r2(a) w4(c) c2 c4", [("a", 7), ("c", 7)],
    ),
    (
        "an item that nobody else wrote becomes 0 again", scripts_of("r(x) w(y)1", "w(z)5 r(y) w(x)2"), [1, 2, 2, 1, 2],
        "r1(x) w2(z) r2(y) a2 w1(y) c1", [("y", 1)],
    ),
    # Sums, negative numbers, and values that become 0 again.
    ("sums", scripts_of("w(x)5 w(y)3 r(x) r(y) w(z)-9"), [], "w1(x) w1(y) r1(x) r1(y) w1(z) c1",
     [("x", 5), ("y", 3), ("z", -1)]),
    ("an item is read twice", scripts_of("w(x)5 r(x) r(x) w(y)1"), [], "w1(x) r1(x) r1(x) w1(y) c1",
     [("x", 5), ("y", 11)]),
    ("negative values", scripts_of("w(x)-4 r(x) w(y)-9"), [], "w1(x) r1(x) w1(y) c1", [("x", -4), ("y", -13)]),
    ("0 again", scripts_of("w(x)4 w(x)0 w(y)-3 r(y) w(z)3"), [], "w1(x) w1(x) w1(y) r1(y) w1(z) c1", [("y", -3)]),
    ("0 again by another one", scripts_of("w(x)4", "w(x)0"), [1, 1, 2], "w1(x) c1 w2(x) c2", []),
    ("what it wrote itself", scripts_of("w(x)1 r(x) w(x)1 r(x) w(x)1"), [], "w1(x) r1(x) w1(x) r1(x) w1(x) c1",
     [("x", 4)]),
    # Values ascend by their items.
    ("several items", scripts_of("w(z)1 w(a)2 w(m)3"), [], "w1(z) w1(a) w1(m) c1", [("a", 2), ("m", 3), ("z", 1)]),
]


class LockedRunTest(unittest.TestCase):
    def test_each_run(self):
        for shown, scripts, weaving, text, values in RUNS:
            with self.subTest(shown=shown):
                schedule, found = locked_run(scripts, weaving)
                self.assertEqual((format_schedule(schedule), found), (text, values))

    def test_kinds_of_values(self):
        found = locked_run(CROSSED, [1, 2])
        self.assertEqual([type(part) for part in (found, *found)], [tuple, list, list])
        self.assertEqual([type(pair) for pair in found[1]], [tuple] * len(found[1]))

    def test_beyond_the_limits(self):
        many = 10
        scripts = [[("write", "x", 1)] * 9 for _ in range(many)]
        schedule, values = locked_run(scripts, list(range(1, many + 1)) * 7)
        self.assertEqual(len(schedule), many * 10)
        self.assertEqual([told[1] for told in schedule if told[0] == "commit"], list(range(1, many + 1)))
        self.assertEqual(values, [("x", 1)])
        self.assertEqual(locked_run([], [1, 2]), ([], []))

    def test_new_lists(self):
        found = locked_run(CROSSED, [])
        for part in locked_run(CROSSED, []):
            part.clear()
        self.assertEqual(locked_run(CROSSED, []), found)


class AgainstTheDefinitionsTest(unittest.TestCase):
    def check(self, scripts, weaving):
        """Compare a run with the definition, and check the facts of every locked run."""
        schedule, values = locked_run(scripts, weaving)
        self.assertEqual((schedule, values), runreference.locked_run(scripts, weaving), (scripts, weaving))
        self.assertEqual(breaks(schedule), (None, None, None), (scripts, weaving))
        self.assertIsNone(ring_of(schedule), (scripts, weaving))
        commits = [told[1] for told in schedule if told[0] == "commit"]
        self.assertEqual(serial_run(scripts, commits), values, (scripts, weaving))
        self.assertEqual(serial_run(scripts, serial_order(schedule)), values, (scripts, weaving))
        ended = sorted(told[1] for told in schedule if told[0] in ("commit", "abort"))
        self.assertEqual(ended, list(range(1, len(scripts) + 1)), (scripts, weaving))

    def test_all_small_runs_of_two(self):
        for scripts in runreference.small_scripts(2):
            for weaving in runreference.weavings(2, 3):
                self.check(scripts, weaving)

    def test_all_small_runs_of_three(self):
        for scripts in runreference.small_scripts(3, "x"):
            self.check(scripts, [1, 2, 3, 3, 2, 1])

    def test_all_weavings_of_some_scripts(self):
        rows = [
            scripts_of("r(x) w(y)1 r(z)", "r(y) w(z)2 w(y)1", "r(z) w(x)3"),
            scripts_of("r(x) r(y) w(x)1", "r(x) w(x)2 w(y)5", "r(y) w(x)3"),
            scripts_of("r(x) w(x)1", "r(x) w(x)2", "r(x) w(x)3"),
        ]
        for scripts in rows:
            for weaving in runreference.weavings(3, 6):
                self.check(scripts, weaving)

    def test_six_scripts_of_eight_steps(self):
        items = "uvwxyz"
        for first in range(1, 30):
            scripts = []
            for t in range(6):
                at = [(first * (t + 2) + place * (t + first)) for place in range(8)]
                scripts.append([
                    ("read", items[number % 6]) if number % 3 else ("write", items[number % 5], number % 19 - 9)
                    for number in at
                ])
            self.check(scripts, [(first * place * place + place) % 7 for place in range(60)])


class SerialRunTest(unittest.TestCase):
    SCRIPTS = scripts_of("w(x)5", "r(x) w(y)1", "r(y) r(x) w(x)-2", "")

    def test_orders_of_all(self):
        told = [
            ([1, 2, 3, 4], [("x", 9), ("y", 6)]),
            ([4, 3, 2, 1], [("x", 5), ("y", -1)]),
            ([2, 1, 4, 3], [("x", 4), ("y", 1)]),
            ([3, 4, 1, 2], [("x", 5), ("y", 6)]),
        ]
        for order, values in told:
            with self.subTest(order=order):
                self.assertEqual(serial_run(self.SCRIPTS, order), values)

    def test_orders_of_some(self):
        told = [
            ([], []),
            ([4], []),
            ([1], [("x", 5)]),
            ([2], [("y", 1)]),
            ([3], [("x", -2)]),
            ([3, 1], [("x", 5)]),
            ([1, 3], [("x", 3)]),
        ]
        for order, values in told:
            with self.subTest(order=order):
                self.assertEqual(serial_run(self.SCRIPTS, order), values)

    def test_all_orders_against_the_definition(self):
        for many in range(4):
            for order in permutations([1, 2, 3, 4], many):
                found = serial_run(self.SCRIPTS, list(order))
                self.assertEqual(found, runreference.serial_run(self.SCRIPTS, order), order)

    def test_numbers_of_no_script_do_nothing(self):
        self.assertEqual(serial_run(self.SCRIPTS, [0, 1, 5, 9, -1]), [("x", 5)])

    def test_values_that_become_0_again(self):
        scripts = scripts_of("w(x)5 w(y)-5", "r(x) r(y) w(y)0", "w(x)0")
        self.assertEqual(serial_run(scripts, [1, 2, 3]), [])
        self.assertEqual(serial_run(scripts, [1, 3, 2]), [("y", -5)])

    def test_the_values_of_another_transaction_are_not_added(self):
        self.assertEqual(serial_run(scripts_of("w(x)5 r(x)", "w(y)1"), [1, 2]), [("x", 5), ("y", 1)])


class NothingIsModifiedTest(unittest.TestCase):
    def test_scripts_weavings_and_orders(self):
        for shown, scripts, weaving, _, _ in RUNS:
            order = list(range(1, len(scripts) + 1))
            before = copy.deepcopy((scripts, weaving, order))
            locked_run(scripts, weaving)
            serial_run(scripts, order).append(("q", 1))
            with self.subTest(shown=shown):
                self.assertEqual((scripts, weaving, order), before)

    def test_defined_in_this_module(self):
        for function in [locked_run, serial_run]:
            with self.subTest(function=function.__name__):
                self.assertEqual(function.__module__, "ordershown.runs")


if __name__ == "__main__":
    unittest.main()
