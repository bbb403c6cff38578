"""Tests of ordershown.snapshots: snapshot runs, their dependencies and their skews."""

import copy
import unittest

import runreference
import schedulereference
from making import scripts_of
from ordershown.conflicts import order_of
from ordershown.runs import serial_run
from ordershown.schedules import format_schedule
from ordershown.snapshots import dependencies, skew, snapshot_run

CROSSED = scripts_of("r(x) w(y)1", "r(y) w(x)2")

# (what it shows, scripts, weaving, the text of the events, the values)
RUNS = [
    (
        "the example of the document", CROSSED, [1, 2, 1, 2, 1, 2],
        "r1(x) r2(y) w1(y) w2(x) c1 c2", [("x", 2), ("y", 1)],
    ),
    # Turns, as in a locked run.
    ("no script", [], [1, 2], "", []),
    ("an empty script", [[]], [], "c1", []),
    ("empty scripts and turns", [[], [], []], [2], "c2 c1 c3", []),
    ("an empty weaving", scripts_of("r(x)", "", "r(x) r(y)"), [], "r1(x) c2 r3(x) c1 r3(y) c3", []),
    ("numbers of no transaction", scripts_of("r(x)", "r(y)"), [0, 2, 3, -1, 9, 2, -2], "r2(y) c2 r1(x) c1", []),
    ("turns behind the end", scripts_of("r(x)", "r(y)"), [1, 1, 1, 1, 2], "r1(x) c1 r2(y) c2", []),
    # What a read tells.
    (
        "a read of its own last write", scripts_of("w(x)1 w(x)2 r(x) w(y)0"), [],
        "w1(x) w1(x) r1(x) w1(y) c1", [("x", 2), ("y", 2)],
    ),
    (
        "not what others have not committed", scripts_of("w(x)5", "r(x) w(y)1"), [1, 2, 2, 1, 2],
        "w1(x) r2(x) w2(y) c1 c2", [("x", 5), ("y", 1)],
    ),
    (
        "not what was committed since the beginning", scripts_of("w(x)5", "r(z) r(x) w(y)1"), [2, 1, 1, 2, 2, 2],
        "r2(z) w1(x) c1 r2(x) w2(y) c2", [("x", 5), ("y", 1)],
    ),
    (
        "what was committed ahead of the beginning", scripts_of("w(x)5", "r(z) r(x) w(y)1"), [1, 1, 2],
        "w1(x) c1 r2(z) r2(x) w2(y) c2", [("x", 5), ("y", 6)],
    ),
    (
        "its own write, though others committed the item", scripts_of("w(x)5", "w(x)2 r(x) w(y)1"),
        [2, 2, 1, 1, 2], "w2(x) r2(x) w1(x) c1 w2(y) a2", [("x", 5)],
    ),
    (
        "the first turn is the beginning, whatever the first step is", scripts_of("w(x)5", "w(z)0 r(x) w(y)1"),
        [2, 1, 1], "w2(z) w1(x) c1 r2(x) w2(y) c2", [("x", 5), ("y", 1)],
    ),
    # Who is aborted: the same item has been committed since the beginning.
    ("the first one that commits", scripts_of("w(x)1", "w(x)2"), [1, 2, 2], "w1(x) w2(x) c2 a1", [("x", 2)]),
    ("one behind the other", scripts_of("w(x)1", "w(x)2"), [1, 1, 2], "w1(x) c1 w2(x) c2", [("x", 2)]),
    (
        "another item", scripts_of("w(x)1", "w(y)2"), [1, 2, 1, 2], "w1(x) w2(y) c1 c2", [("x", 1), ("y", 2)],
    ),
    (
        "one item of several", scripts_of("w(x)1 w(y)1", "w(z)2 w(y)2"), [1, 2, 1, 2, 1, 2],
        "w1(x) w2(z) w1(y) w2(y) c1 a2", [("x", 1), ("y", 1)],
    ),
    (
        "what was read only does not matter", scripts_of("r(x) w(y)1", "w(x)2"), [1, 2, 2, 1, 1],
        "r1(x) w2(x) c2 w1(y) c1", [("x", 2), ("y", 1)],
    ),
    (
        "an item that is committed with the same value", scripts_of("w(x)0", "w(x)0"), [1, 2, 1, 2],
        "w1(x) w2(x) c1 a2", [],
    ),
    (
        "an item that an aborted one wrote", scripts_of("w(x)1", "w(x)2 w(y)2", "r(z) w(y)3"),
        [1, 2, 3, 1, 2, 2, 3, 3], "w1(x) w2(x) r3(z) c1 w2(y) a2 w3(y) c3", [("x", 1), ("y", 3)],
    ),
    (
        "committed ahead of the beginning by one, since then by another one",
        scripts_of("w(x)1", "w(x)2", "w(x)3"), [1, 1, 2, 3, 3, 2], "w1(x) c1 w2(x) w3(x) c3 a2", [("x", 3)],
    ),
    (
        "what it wrote behind the commit of the other one", scripts_of("w(x)1", "r(y) w(x)2"), [2, 1, 1, 2, 2],
        "r2(y) w1(x) c1 w2(x) a2", [("x", 1)],
    ),
    # Sums and values.
    (
        "the last write of each item", scripts_of("w(x)1 w(y)2 w(x)3"), [],
        "w1(x) w1(y) w1(x) c1", [("x", 3), ("y", 2)],
    ),
    ("sums", scripts_of("w(x)5 r(x) r(x) w(y)-9"), [], "w1(x) r1(x) r1(x) w1(y) c1", [("x", 5), ("y", 1)]),
    ("negative values", scripts_of("w(x)-4 r(x) w(a)-9"), [], "w1(x) r1(x) w1(a) c1", [("a", -13), ("x", -4)]),
    ("0 again", scripts_of("w(x)4", "w(x)0"), [1, 1, 2, 2], "w1(x) c1 w2(x) c2", []),
]

# (what it shows, scripts, weaving, the dependencies, the skew)
DEPENDENCIES = [
    ("the example of the document", CROSSED, [1, 2, 1, 2, 1, 2], [(1, 2, "miss"), (2, 1, "miss")], [1, 2]),
    ("one behind the other", CROSSED, [1, 1, 1], [(1, 2, "miss"), (1, 2, "read")], None),
    ("none", scripts_of("r(x) w(x)1", "r(y) w(y)1"), [1, 2], [], None),
    ("what both only read", scripts_of("r(x)", "r(x)"), [1, 2], [], None),
    ("no transaction", [], [], [], None),
    # Each kind alone.
    ("read", scripts_of("w(x)1", "r(x)"), [1, 1, 2, 2], [(1, 2, "read")], None),
    ("write", scripts_of("w(x)1", "w(x)2"), [1, 1, 2, 2], [(1, 2, "write")], None),
    ("write, by the commits", scripts_of("w(x)1", "w(x)2"), [2, 2, 1, 1], [(2, 1, "write")], None),
    (
        "write, all that come ahead", scripts_of("w(x)1", "w(x)2", "w(x)3"), [3, 3, 1, 1],
        [(1, 2, "write"), (3, 1, "write"), (3, 2, "write")], None,
    ),
    ("miss", scripts_of("w(x)1", "r(x)"), [1, 2, 1, 2], [(2, 1, "miss")], None),
    ("miss, long behind the end", scripts_of("w(x)1", "r(x)"), [2, 2, 1, 1], [(2, 1, "miss")], None),
    # Several between the same two.
    (
        "all three", scripts_of("r(x) w(y)1", "r(y) w(x)2 w(y)2"), [1, 1, 1],
        [(1, 2, "miss"), (1, 2, "read"), (1, 2, "write")], None,
    ),
    ("each kind once", scripts_of("w(x)1 w(y)1", "r(x) r(y) r(x)"), [1, 1, 1], [(1, 2, "read")], None),
    # Only the last one that committed ahead of the beginning is read, but all that come behind it are missed.
    (
        "who is read", scripts_of("w(x)1", "w(x)2", "r(x)"), [1, 1, 2, 2, 3, 3],
        [(1, 2, "write"), (2, 3, "read")], None,
    ),
    (
        "who is read at the beginning", scripts_of("w(x)1", "w(x)2", "r(y) r(x)"), [1, 1, 3, 2, 2],
        [(1, 2, "write"), (1, 3, "read"), (3, 2, "miss")], None,
    ),
    (
        "who is missed", scripts_of("r(x)", "w(x)2", "w(x)3"), [1, 2, 2, 3, 3],
        [(1, 2, "miss"), (1, 3, "miss"), (2, 3, "write")], None,
    ),
    # What is read from its own write is read from nobody else, and missed from nobody.
    ("its own write", scripts_of("w(x)1", "w(x)2 r(x)"), [1, 1, 2, 2], [(1, 2, "write")], None),
    (
        "its own write, and then another one's", scripts_of("w(x)1", "w(x)2 r(x)"), [2, 2, 2, 1, 1],
        [(2, 1, "write")], None,
    ),
    (
        "read ahead of its own write", scripts_of("w(x)1", "r(x) w(x)2 r(x)"), [1, 1],
        [(1, 2, "read"), (1, 2, "write")], None,
    ),
    ("its own commit is not missed", scripts_of("r(x) w(x)1"), [], [], None),
    # Aborted transactions have none.
    ("a victim", scripts_of("r(y) w(x)1", "r(x) w(x)2 w(y)2"), [1, 2, 1, 2, 1, 2], [], None),
    ("who is behind a victim", scripts_of("w(x)1", "w(x)2", "r(x)"), [1, 2, 1, 2, 3], [(1, 3, "read")], None),
    # Skews: of three, the shortest, and none where all goes one way.
    (
        "three", scripts_of("r(x) w(y)1", "r(y) w(z)2", "r(z) w(x)3"), [1, 2, 3],
        [(1, 3, "miss"), (2, 1, "miss"), (3, 2, "miss")], [1, 3, 2],
    ),
    (
        "the shortest", scripts_of("r(x) w(y)1", "r(y) w(z)2", "r(z) w(x)3", "r(a) w(b)4", "r(b) w(a)5"),
        [1, 2, 3, 4, 5],
        [(1, 3, "miss"), (2, 1, "miss"), (3, 2, "miss"), (4, 5, "miss"), (5, 4, "miss")], [4, 5],
    ),
    (
        "one way", scripts_of("r(x)", "r(y) w(x)2", "w(y)3"), [1, 2, 3, 1, 2, 3],
        [(1, 2, "miss"), (2, 3, "miss")], None,
    ),
    (
        "a reader that makes a skew", scripts_of("r(x) r(y) w(x)1", "w(y)2", "r(x) r(y)"), [1, 2, 2, 3, 3, 3, 1, 1],
        [(1, 2, "miss"), (2, 3, "read"), (3, 1, "miss")], [1, 2, 3],
    ),
]


class SnapshotRunTest(unittest.TestCase):
    def test_each_run(self):
        for shown, scripts, weaving, text, values in RUNS:
            with self.subTest(shown=shown):
                schedule, found = snapshot_run(scripts, weaving)
                self.assertEqual((format_schedule(schedule), found), (text, values))

    def test_kinds_of_values(self):
        found = snapshot_run(CROSSED, [1, 2])
        self.assertEqual([type(part) for part in (found, *found)], [tuple, list, list])
        self.assertEqual([type(pair) for pair in found[1]], [tuple] * 2)

    def test_beyond_the_limits(self):
        scripts = [[("write", "x", t)] * 9 for t in range(10)]
        schedule, values = snapshot_run(scripts, list(range(1, 11)) * 7)
        self.assertEqual(len(schedule), 100)
        self.assertEqual([told for told in schedule if told[0] == "commit"], [("commit", 1)])
        self.assertEqual(values, [])


class DependenciesTest(unittest.TestCase):
    def test_dependencies(self):
        for shown, scripts, weaving, told, _ in DEPENDENCIES:
            with self.subTest(shown=shown):
                self.assertEqual(dependencies(scripts, weaving), told)

    def test_skew(self):
        for shown, scripts, weaving, _, ring in DEPENDENCIES:
            with self.subTest(shown=shown):
                self.assertEqual(skew(scripts, weaving), ring)


class AgainstTheDefinitionsTest(unittest.TestCase):
    def check(self, scripts, weaving):
        """Compare a run with the definition; return whether it has a skew."""
        schedule, values = snapshot_run(scripts, weaving)
        run = runreference.snapshots_of(scripts, weaving)
        self.assertEqual((schedule, values), (run.events, run.values()), (scripts, weaving))
        triples = run.dependencies()
        self.assertEqual(dependencies(scripts, weaving), triples, (scripts, weaving))
        pairs = [(t, u) for t, u, _ in triples]
        ring = skew(scripts, weaving)
        self.assertEqual(ring, schedulereference.ring_in(pairs), (scripts, weaving))
        if ring is None:
            commits = sorted(told[1] for told in schedule if told[0] == "commit")
            order = order_of(commits, pairs)
            self.assertEqual(serial_run(scripts, order), values, (scripts, weaving))
        return ring is not None

    def test_all_small_runs_of_two(self):
        skews = 0
        for scripts in runreference.small_scripts(2):
            for weaving in runreference.weavings(2, 3):
                skews += self.check(scripts, weaving)
        self.assertGreater(skews, 0)

    def test_all_small_runs_of_three(self):
        for scripts in runreference.small_scripts(3, "x"):
            self.check(scripts, [1, 2, 3, 3, 2, 1])

    def test_all_weavings_of_some_scripts(self):
        rows = [
            scripts_of("r(x) w(y)1 r(z)", "r(y) w(z)2", "r(z) w(x)3"),
            scripts_of("r(x) r(y) w(x)1", "r(x) w(y)5", "r(y) r(x)"),
            scripts_of("w(x)1 r(x) r(y)", "r(x) w(y)2", "r(y) w(x)3"),
        ]
        for scripts in rows:
            for weaving in runreference.weavings(3, 5):
                self.check(scripts, weaving)

    def test_six_scripts_of_eight_steps(self):
        items = "abcdefghijklmnopqrstuvwxyz"
        for first in range(1, 30):
            scripts = []
            for t in range(6):
                at = [(first * (t + 2) + place * (t + first)) for place in range(8)]
                scripts.append([
                    ("read", items[number % 26]) if number % 3 else ("write", items[number % 25], number % 19 - 9)
                    for number in at
                ])
            self.check(scripts, [(first * place * place + place) % 7 for place in range(60)])


class NothingIsModifiedTest(unittest.TestCase):
    def test_scripts_and_weavings(self):
        for shown, scripts, weaving, _, _ in DEPENDENCIES:
            before = copy.deepcopy((scripts, weaving))
            for part in snapshot_run(scripts, weaving):
                part.clear()
            dependencies(scripts, weaving).clear()
            (skew(scripts, weaving) or []).clear()
            with self.subTest(shown=shown):
                self.assertEqual((scripts, weaving), before)

    def test_new_lists(self):
        snapshot_run(CROSSED, [1, 2])[0].clear()
        dependencies(CROSSED, [1, 2]).clear()
        skew(CROSSED, [1, 2]).clear()
        self.assertEqual(len(snapshot_run(CROSSED, [1, 2])[0]), 6)
        self.assertEqual(dependencies(CROSSED, [1, 2]), [(1, 2, "miss"), (2, 1, "miss")])
        self.assertEqual(skew(CROSSED, [1, 2]), [1, 2])

    def test_defined_in_this_module(self):
        for function in [snapshot_run, dependencies, skew]:
            with self.subTest(function=function.__name__):
                self.assertEqual(function.__module__, "ordershown.snapshots")


if __name__ == "__main__":
    unittest.main()
