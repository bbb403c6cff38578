"""Tests of ordershown.claims: claims about schedules and runs, made and judged."""

import copy
import unittest
from itertools import product

import runreference
import schedulereference
from making import scripts_of
from ordershown.claims import about_breaks, about_order, about_run, about_skew, judge, judge_all
from ordershown.schedules import read_schedule

RING = "r1(x) w2(x) w1(x) w3(x)"
ROW = "w3(x) w1(x) c3 r2(y) a4"
SEVEN = "w1(x) r2(x) r3(x) r4(x) r5(x) r6(x) r7(x) w1(y) r2(y)"
THREE = "w1(a) w2(a) w2(b) w3(b) w3(c) w1(c)"
DIRTY = "w1(x) c1 w2(x) w3(x) r4(x) c4"

CROSSED = scripts_of("r(x) w(y)1", "r(y) w(x)2")
OVERLAPPED = [1, 2, 1, 2, 1, 2]
CIRCLE = scripts_of("r(x) w(y)1", "r(y) w(z)2", "r(z) w(x)3")

# (word, the text of the schedule, what is claimed, whether it holds)
OF_SCHEDULES = [
    ("serializable", "", [[]], True),
    ("serializable", "", [[1]], False),
    ("serializable", "a1", [[]], True),
    ("serializable", "a1", [[1]], False),
    ("serializable", "c1", [[1]], True),
    ("serializable", "c1", [[]], False),
    # Any order that keeps the pairs, not the told one alone.
    ("serializable", ROW, [[2, 3, 1]], True),
    ("serializable", ROW, [[3, 1, 2]], True),
    ("serializable", ROW, [[3, 2, 1]], True),
    ("serializable", ROW, [[1, 3, 2]], False),
    ("serializable", ROW, [[1, 2, 3]], False),
    # Left out, twice, of no transaction, of an aborted one.
    ("serializable", ROW, [[3, 1]], False),
    ("serializable", ROW, [[]], False),
    ("serializable", ROW, [[2, 3, 1, 2]], False),
    ("serializable", ROW, [[2, 2, 3, 1]], False),
    ("serializable", ROW, [[3, 3, 1]], False),
    ("serializable", ROW, [[2, 3, 1, 5]], False),
    ("serializable", ROW, [[5, 3, 1]], False),
    ("serializable", ROW, [[2, 3, 1, 4]], False),
    ("serializable", ROW, [[2, 3, 1, 0]], False),
    ("serializable", ROW, [[2, 3, 1, -1]], False),
    # Schedules with a ring.
    ("serializable", RING, [[1, 2, 3]], False),
    ("serializable", RING, [[2, 1, 3]], False),
    # Rings: from anywhere, but not of none, of one, of doubled ones, of what are no pairs.
    ("not serializable", RING, [[1, 2]], True),
    ("not serializable", RING, [[2, 1]], True),
    ("not serializable", RING, [[]], False),
    ("not serializable", RING, [[1]], False),
    ("not serializable", RING, [[1, 1]], False),
    ("not serializable", RING, [[1, 2, 1, 2]], False),
    ("not serializable", RING, [[1, 2, 1]], False),
    ("not serializable", RING, [[1, 3]], False),
    ("not serializable", RING, [[1, 2, 3]], False),
    ("not serializable", RING, [[3, 1, 2]], False),
    ("not serializable", RING, [[1, 7]], False),
    ("not serializable", RING, [[0, 9]], False),
    ("not serializable", THREE, [[1, 2, 3]], True),
    ("not serializable", THREE, [[3, 1, 2]], True),
    ("not serializable", THREE, [[3, 2, 1]], False),
    ("not serializable", THREE, [[1, 2]], False),
    ("not serializable", ROW, [[3, 1]], False),
    ("not serializable", "", [[]], False),
    # Aborted ones are in no ring.
    ("not serializable", RING + " a2", [[1, 2]], False),
    # A longer ring than the told one.
    ("not serializable", "w1(a) w2(a) w1(a) w2(b) w3(b) w3(c) w1(c)", [[1, 2, 3]], True),
    # Views, whatever the graph, and not the first one alone.
    ("view", RING, [[1, 2, 3]], True),
    ("view", RING, [[2, 1, 3]], False),
    ("view", RING, [[1, 3, 2]], False),
    ("view", "w2(x) w1(x) w3(x)", [[1, 2, 3]], True),
    ("view", "w2(x) w1(x) w3(x)", [[2, 1, 3]], True),
    ("view", "w2(x) w1(x) w3(x)", [[2, 3, 1]], False),
    ("view", "r1(x) w2(x) w1(x)", [[1, 2]], False),
    ("view", "r1(x) w2(x) w1(x)", [[2, 1]], False),
    ("view", ROW, [[2, 3, 1]], True),
    ("view", ROW, [[3, 1]], False),
    ("view", ROW, [[2, 3, 1, 2]], False),
    ("view", ROW, [[2, 3, 1, 5]], False),
    ("view", ROW, [[2, 3, 1, 4]], False),
    ("view", ROW, [[2, 3, 5]], False),
    ("view", "", [[]], True),
    ("view", "a1", [[]], True),
    ("view", "a1", [[1]], False),
    # More than six transactions.
    ("view", SEVEN, [[1, 2, 3, 4, 5, 6, 7]], True),
    ("view", SEVEN, [[1, 7, 6, 5, 4, 3, 2]], True),
    ("view", SEVEN, [[2, 1, 3, 4, 5, 6, 7]], False),
    ("view", SEVEN, [[1, 2, 3, 4, 5, 6]], False),
    ("view", "c8 " + SEVEN, [[1, 2, 3, 4, 5, 6, 7, 8]], True),
    # Breaks: the first place, and no other one.
    ("breaks", DIRTY, ["recoverable", 5], True),
    ("breaks", DIRTY, ["cascadeless", 4], True),
    ("breaks", DIRTY, ["strict", 3], True),
    ("breaks", DIRTY, ["strict", 4], False),
    ("breaks", DIRTY, ["strict", 2], False),
    ("breaks", DIRTY, ["strict", 5], False),
    ("breaks", DIRTY, ["strict", None], False),
    ("breaks", DIRTY, ["cascadeless", 3], False),
    ("breaks", DIRTY, ["cascadeless", None], False),
    ("breaks", DIRTY, ["recoverable", 4], False),
    ("breaks", DIRTY, ["recoverable", None], False),
    ("breaks", DIRTY, ["recoverable", 6], False),
    ("breaks", DIRTY, ["recoverable", -1], False),
    ("breaks", "w1(x) w2(x) c1", ["recoverable", None], True),
    ("breaks", "w1(x) w2(x) c1", ["cascadeless", None], True),
    ("breaks", "w1(x) w2(x) c1", ["strict", None], False),
    ("breaks", "w1(x) w2(x) c1", ["strict", 1], True),
    ("breaks", "", ["strict", None], True),
    ("breaks", "", ["strict", 0], False),
    # The first place is not the last break.
    ("breaks", "w1(x) w2(x) w3(x)", ["strict", 2], False),
    # Kinds that are none.
    ("breaks", "", ["recoverability", None], False),
    ("breaks", "", ["", None], False),
    ("breaks", "", ["serializable", None], False),
]

SCHEDULE = read_schedule("r1(x) r2(y) a2 w1(y) c1")

# (word, scripts, weaving, what is claimed, whether it holds)
OF_RUNS = [
    ("run", CROSSED, [1, 2, 1, 2, 1], [SCHEDULE, [("y", 1)]], True),
    # Another weaving with the same run, and one with another run.
    ("run", CROSSED, [1, 2, 1, 2, 1, 1, 9], [SCHEDULE, [("y", 1)]], True),
    ("run", CROSSED, [1, 1, 1], [SCHEDULE, [("y", 1)]], False),
    ("run", CROSSED, [1, 2, 1, 2, 1], [SCHEDULE, []], False),
    ("run", CROSSED, [1, 2, 1, 2, 1], [SCHEDULE, [("y", 2)]], False),
    ("run", CROSSED, [1, 2, 1, 2, 1], [SCHEDULE, [("x", 0), ("y", 1)]], False),
    ("run", CROSSED, [1, 2, 1, 2, 1], [SCHEDULE[:-1], [("y", 1)]], False),
    ("run", CROSSED, [1, 2, 1, 2, 1], [[SCHEDULE[1], SCHEDULE[0], *SCHEDULE[2:]], [("y", 1)]], False),
    ("run", CROSSED, [1, 2, 1, 2, 1], [[], []], False),
    ("run", [[]], [], [[("commit", 1)], []], True),
    ("run", [[]], [], [[], []], False),
    # The snapshot run is another one.
    ("run", CROSSED, OVERLAPPED, [read_schedule("r1(x) r2(y) w1(y) w2(x) c1 c2"), [("x", 2), ("y", 1)]], False),
    ("skew", CROSSED, OVERLAPPED, [[1, 2]], True),
    ("skew", CROSSED, OVERLAPPED, [[2, 1]], True),
    ("skew", CROSSED, OVERLAPPED, [[]], False),
    ("skew", CROSSED, OVERLAPPED, [[1]], False),
    ("skew", CROSSED, OVERLAPPED, [[1, 1]], False),
    ("skew", CROSSED, OVERLAPPED, [[1, 2, 1, 2]], False),
    ("skew", CROSSED, OVERLAPPED, [[1, 3]], False),
    ("skew", CROSSED, [1, 1, 1], [[1, 2]], False),
    ("skew", CIRCLE, [1, 2, 3], [[1, 3, 2]], True),
    ("skew", CIRCLE, [1, 2, 3], [[2, 1, 3]], True),
    ("skew", CIRCLE, [1, 2, 3], [[1, 2, 3]], False),
    ("skew", CIRCLE, [1, 2, 3], [[1, 2]], False),
]

CLAIMS = [((word, read_schedule(text), *told), holds) for word, text, told, holds in OF_SCHEDULES]
CLAIMS += [((word, scripts, weaving, *told), holds) for word, scripts, weaving, told, holds in OF_RUNS]


class JudgeTest(unittest.TestCase):
    def test_each_claim(self):
        for claim, holds in CLAIMS:
            with self.subTest(claim=claim):
                self.assertIs(judge(claim), holds)

    def test_words_that_are_no_claims(self):
        for claim in [("", []), ("conflicts", [], []), ("not view", [], [1, 2])]:
            with self.subTest(claim=claim):
                self.assertIs(judge(claim), False)

    def test_judge_all(self):
        told = [place for place, (_, holds) in enumerate(CLAIMS) if not holds]
        self.assertEqual(judge_all([claim for claim, _ in CLAIMS]), told)
        self.assertEqual(judge_all([]), [])
        self.assertEqual(judge_all([claim for claim, holds in CLAIMS if holds]), [])

    def test_all_orders_and_rings_of_small_schedules(self):
        rows = [list(row) for many in range(4) for row in product([0, 1, 2, 3], repeat=many)]
        schedules = schedulereference.small_schedules((1, 2), ("read", "write", "abort"), "x", 4)
        schedules += [read_schedule(text) for text in (RING, ROW, THREE, "w2(x) w1(x) w3(x)")]
        for schedule in schedules:
            numbers = schedulereference.numbers_of(schedule)
            pairs = schedulereference.graph(schedule)
            kept = schedulereference.kept_of(schedule)
            for row in rows:
                whole = sorted(row) == numbers
                keeps = whole and all(row.index(t) < row.index(u) for t, u in pairs)
                self.assertIs(judge(("serializable", schedule, row)), keeps)
                ring = len(row) > 1 and len(set(row)) == len(row) and schedulereference.is_ring(row, pairs)
                self.assertIs(judge(("not serializable", schedule, row)), ring)
                serial = schedulereference.serial_schedule(kept, row)
                same = whole and schedulereference.view(serial) == schedulereference.view(schedule)
                self.assertIs(judge(("view", schedule, row)), same)


class AboutTest(unittest.TestCase):
    def test_about_order(self):
        told = [
            (RING, ("not serializable", [1, 2])),
            (THREE, ("not serializable", [1, 2, 3])),
            (ROW, ("serializable", [2, 3, 1])),
            ("", ("serializable", [])),
            ("w2(x) r1(x) a2", ("serializable", [1])),
        ]
        for text, (word, row) in told:
            with self.subTest(text=text):
                self.assertEqual(about_order(read_schedule(text)), (word, read_schedule(text), row))

    def test_about_breaks(self):
        schedule = read_schedule(DIRTY)
        self.assertEqual(about_breaks(schedule), [
            ("breaks", schedule, "recoverable", 5),
            ("breaks", schedule, "cascadeless", 4),
            ("breaks", schedule, "strict", 3),
        ])
        kinds = ["recoverable", "cascadeless", "strict"]
        self.assertEqual(about_breaks([]), [("breaks", [], kind, None) for kind in kinds])

    def test_about_run(self):
        claim = about_run(CROSSED, [1, 2, 1, 2, 1])
        self.assertEqual(claim, ("run", CROSSED, [1, 2, 1, 2, 1], SCHEDULE, [("y", 1)]))

    def test_about_skew(self):
        self.assertEqual(about_skew(CROSSED, OVERLAPPED), ("skew", CROSSED, OVERLAPPED, [1, 2]))
        self.assertEqual(about_skew(CIRCLE, [1, 2, 3]), ("skew", CIRCLE, [1, 2, 3], [1, 3, 2]))
        self.assertIsNone(about_skew(CROSSED, [1, 1, 1]))

    def test_kinds_of_values(self):
        claims = [about_order(SCHEDULE), *about_breaks(SCHEDULE), about_run(CROSSED, [1]), about_skew(CROSSED, [1, 2])]
        self.assertEqual([type(claim) for claim in claims], [tuple] * 6)
        self.assertIs(type(about_breaks(SCHEDULE)), list)


class ClaimsHoldTest(unittest.TestCase):
    def test_of_all_small_schedules(self):
        schedules = schedulereference.small_schedules((1, 2), ("read", "write", "commit", "abort"), "x", 4)
        schedules += schedulereference.small_schedules((1, 2, 3), ("read", "write"), "xy", 3)
        for schedule in schedules:
            claims = [about_order(schedule), *about_breaks(schedule)]
            self.assertEqual(judge_all(claims), [], schedule)
            places = schedulereference.breaks(schedule)
            self.assertEqual([claim[3] for claim in claims[1:]], list(places), schedule)

    def test_of_small_runs(self):
        for scripts in runreference.small_scripts(2):
            for weaving in ([], [1, 2, 1, 2], [2, 2, 1, 1]):
                claims = [about_run(scripts, weaving)]
                skew = about_skew(scripts, weaving)
                if skew is not None:
                    claims.append(skew)
                claims += [about_order(claims[0][3]), *about_breaks(claims[0][3])]
                self.assertEqual([judge(claim) for claim in claims], [True] * len(claims), scripts)


class NothingIsModifiedTest(unittest.TestCase):
    def test_claims_that_are_judged(self):
        claims = [claim for claim, _ in CLAIMS]
        before = copy.deepcopy(claims)
        judge_all(claims)
        self.assertEqual(claims, before)

    def test_schedules_scripts_and_weavings(self):
        for text in (RING, ROW, THREE, DIRTY):
            schedule = read_schedule(text)
            about_order(schedule)
            about_breaks(schedule)
            with self.subTest(text=text):
                self.assertEqual(schedule, read_schedule(text))
        scripts, weaving = copy.deepcopy(CROSSED), list(OVERLAPPED)
        about_run(scripts, weaving)
        about_skew(scripts, weaving)
        self.assertEqual((scripts, weaving), (CROSSED, OVERLAPPED))

    def test_claims_have_lists_of_their_own(self):
        for text in (RING, ROW):
            schedule = read_schedule(text)
            claims = [about_order(schedule), *about_breaks(schedule)]
            before = copy.deepcopy(claims)
            schedule.clear()
            self.assertEqual(claims, before)
            for claim in claims:
                self.assertTrue(judge(claim))
                claim[1].append(("abort", 8))
            many = len(read_schedule(text)) + 1
            self.assertEqual([len(claim[1]) for claim in claims], [many] * 4)

    def test_claims_of_runs_have_lists_of_their_own(self):
        scripts, weaving = copy.deepcopy(CROSSED), list(OVERLAPPED)
        claims = [about_run(scripts, weaving), about_skew(scripts, weaving)]
        before = copy.deepcopy(claims)
        scripts[0].clear()
        weaving.clear()
        self.assertEqual(claims, before)
        claims[0][1][1].clear()
        claims[0][2].clear()
        self.assertEqual((scripts[1], claims[1]), (CROSSED[1], before[1]))
        self.assertEqual(judge_all(before), [])

    def test_new_lists(self):
        about_order(SCHEDULE)[2].clear()
        about_breaks(SCHEDULE).clear()
        about_run(CROSSED, [])[3].clear()
        about_skew(CROSSED, OVERLAPPED)[3].clear()
        judge_all([("breaks", [], "strict", 0)]).clear()
        self.assertEqual(about_order(SCHEDULE)[2], [1])
        self.assertEqual(len(about_breaks(SCHEDULE)), 3)
        self.assertTrue(judge(about_run(CROSSED, [])))
        self.assertTrue(judge(about_skew(CROSSED, OVERLAPPED)))
        self.assertEqual(judge_all([("breaks", [], "strict", 0)]), [0])

    def test_defined_in_this_module(self):
        for function in [about_order, about_breaks, about_run, about_skew, judge, judge_all]:
            with self.subTest(function=function.__name__):
                self.assertEqual(function.__module__, "ordershown.claims")


if __name__ == "__main__":
    unittest.main()
