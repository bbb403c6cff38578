"""Tests of ordershown.conflicts: views, view equivalence and view orders."""

import copy
import unittest
from itertools import permutations

import schedulereference
from ordershown.conflicts import (
    are_view_equivalent,
    ring_of,
    serial_order,
    serial_schedule,
    view_of,
    view_order,
)
from ordershown.errors import ScheduleError
from ordershown.schedules import read_schedule, transactions_of, without_aborted

# (text, reads, last)
VIEWS = [
    ("", [], []),
    ("c1 a2", [], []),
    # From 0, from another one, from itself.
    ("r1(x)", [(1, "x", 0)], []),
    ("w2(x) r1(x)", [(1, "x", 2)], [("x", 2)]),
    ("w1(x) r1(x)", [(1, "x", 1)], [("x", 1)]),
    ("w2(x) w1(x) r1(x) r2(x)", [(1, "x", 1), (2, "x", 1)], [("x", 1)]),
    # Only a write of the same item, and only one that is ahead.
    ("w2(y) r1(x) w2(x)", [(1, "x", 0)], [("x", 2), ("y", 2)]),
    # By the transaction first, then as they stand.
    (
        "r2(z) r1(y) w3(y) r1(a) r2(y) r1(y)",
        [(1, "y", 0), (1, "a", 0), (1, "y", 3), (2, "z", 0), (2, "y", 3)], [("y", 3)],
    ),
    # The last write of each item, ascending by the item.
    ("w1(z) w2(a) w1(m) w2(z)", [], [("a", 2), ("m", 1), ("z", 2)]),
    # What aborted transactions write is not there, and what they read is not told.
    ("w1(x) r2(x) r1(y) a1", [(2, "x", 0)], []),
    ("w3(x) w1(x) r2(x) a1", [(2, "x", 3)], [("x", 3)]),
]

# (text, the view order, the serial order)
ORDERS = [
    ("", [], []),
    ("c3 r1(x) c2", [1, 2, 3], [1, 2, 3]),
    # The example of the document: a view order, and no serial one.
    ("r1(x) w2(x) w1(x) w3(x)", [1, 2, 3], None),
    ("r2(x) w1(x) w2(x) w3(x)", [2, 1, 3], None),
    ("w1(x) w2(x) w2(y) w1(y) w3(x) w3(y)", [1, 2, 3], None),
    # None.
    ("r1(x) w2(x) w1(x)", None, None),
    ("r1(x) r2(y) w1(y) w2(x)", None, None),
    ("w1(x) w2(x) w2(y) w1(y)", None, None),
    # The first order, where the serial order is another one.
    ("w2(x) w1(x) w3(x)", [1, 2, 3], [2, 1, 3]),
    ("w3(x) w2(x) w1(x) w4(x)", [1, 2, 3, 4], [3, 2, 1, 4]),
    # Aborted transactions do not count.
    ("r1(x) w2(x) w1(x) w3(x) a3", None, None),
    ("r1(x) w2(x) w1(x) w3(x) a2", [1, 3], [1, 3]),
    ("w5(x) r2(x) a5 w4(y) r2(y)", [4, 2], [4, 2]),
    # Each one reads from the next one.
    ("w6(a) r5(a) w5(b) r4(b) w4(c) r3(c) w3(d) r2(d) w2(e) r1(e)", [6, 5, 4, 3, 2, 1], [6, 5, 4, 3, 2, 1]),
]

# (text, other, whether they are view equivalent)
EQUIVALENT = [
    ("", "", True),
    ("r1(x) w2(x)", "w2(x) r1(x)", False),
    ("r1(x) r2(x)", "r2(x) r1(x)", True),
    ("r1(x) w2(x) w1(x) w3(x)", "r1(x) w1(x) w2(x) w3(x)", True),
    ("w1(x) w2(x) w3(x)", "w2(x) w1(x) w3(x)", True),
    # The reads are the same, but the last write is not.
    ("w1(x) w2(x)", "w2(x) w1(x)", False),
    # The last writes are the same, but a read is not.
    ("w1(x) r3(x) w2(x)", "w1(x) w2(x) r3(x)", False),
    # The same view, but another order of a transaction's operations.
    ("w1(x) w1(y)", "w1(y) w1(x)", False),
    ("r1(x) w1(y)", "w1(y) r1(x)", False),
    ("r1(x) c1", "r1(x)", False),
    ("r1(x) w1(y) w2(z)", "w2(z) r1(x) w1(y)", True),
    # The same view, but one has more: a write, a commit, a transaction.
    ("w1(x) w1(x)", "w1(x)", False),
    ("w1(x)", "w1(x) c1", False),
    ("w1(x)", "w1(x) c2", False),
    # What aborted transactions did does not matter.
    ("r2(x) w1(x) a1", "r2(x)", True),
    ("w1(x) r2(x) a1", "r2(x) r1(y) a1", True),
    ("w1(x) r2(x) a1", "w1(x) r2(x)", False),
    ("a1", "a2 a3", True),
    ("a1", "c1", False),
]


class ViewTest(unittest.TestCase):
    def test_view_of(self):
        for text, reads, last in VIEWS:
            with self.subTest(text=text):
                found = view_of(read_schedule(text))
                self.assertEqual(found, (reads, last))
                self.assertEqual([type(part) for part in found], [list, list])

    def test_all_small_schedules(self):
        schedules = schedulereference.small_schedules((1, 2, 3), ("read", "write"), "xy", 4)
        schedules += schedulereference.small_schedules((1, 2), ("read", "write", "abort"), "x", 5)
        for schedule in schedules:
            self.assertEqual(view_of(schedule), schedulereference.view(schedule), schedule)

    def test_new_lists(self):
        schedule = read_schedule("w1(x) r2(x)")
        reads, last = view_of(schedule)
        reads.clear()
        last.clear()
        self.assertEqual(view_of(schedule), ([(2, "x", 1)], [("x", 1)]))


class ViewEquivalenceTest(unittest.TestCase):
    def test_each_pair_of_schedules(self):
        for text, other, are in EQUIVALENT:
            with self.subTest(text=text, other=other):
                one, two = read_schedule(text), read_schedule(other)
                self.assertIs(are_view_equivalent(one, two), are)
                self.assertIs(are_view_equivalent(two, one), are)

    def test_all_orders_of_some_operations(self):
        for text in ["r1(x) w2(x) r1(x) w2(x) w3(x)", "w1(x) r2(x) w3(x) w2(y) r3(y)", "w1(x) r2(x) w3(x) a3 c2"]:
            schedule = read_schedule(text)
            others = [list(row) for row in permutations(schedule) if is_schedule(row)]
            self.assertGreater(len(others), 20)
            for other in others:
                self.assertIs(
                    are_view_equivalent(schedule, other),
                    schedulereference.are_view_equivalent(schedule, other),
                    other,
                )


def is_schedule(row):
    for place, operation in enumerate(row):
        if {("commit", operation[1]), ("abort", operation[1])} & set(row[:place]):
            return False
    return True


class ViewOrderTest(unittest.TestCase):
    def test_view_order(self):
        for text, order, _ in ORDERS:
            with self.subTest(text=text):
                self.assertEqual(view_order(read_schedule(text)), order)

    def test_beside_the_serial_order(self):
        for text, _, order in ORDERS:
            with self.subTest(text=text):
                schedule = read_schedule(text)
                self.assertEqual(serial_order(schedule), order)
                self.assertEqual(ring_of(schedule) is None, order is not None)

    def test_all_small_schedules(self):
        schedules = schedulereference.small_schedules((1, 2, 3), ("read", "write"), "x", 5)
        schedules += schedulereference.small_schedules((1, 2, 3), ("read", "write"), "xy", 3)
        schedules += schedulereference.small_schedules((1, 2), ("read", "write", "abort", "commit"), "x", 4)
        for schedule in schedules:
            order = view_order(schedule)
            self.assertEqual(order, schedulereference.view_order(schedule), schedule)
            if serial_order(schedule) is not None:
                self.assertIsNotNone(order, schedule)

    def test_the_serial_schedule_of_a_view_order(self):
        for text, order, _ in ORDERS:
            if order is not None:
                with self.subTest(text=text):
                    kept = without_aborted(read_schedule(text))
                    self.assertTrue(are_view_equivalent(kept, serial_schedule(kept, order)))

    def test_six_transactions(self):
        schedule = read_schedule("w6(x) w5(x) w4(x) w3(x) w1(x) w2(x) r1(x)")
        self.assertEqual(transactions_of(schedule), [1, 2, 3, 4, 5, 6])
        self.assertIsNone(view_order(schedule))
        schedule = read_schedule("w6(x) w5(x) w4(x) w3(x) r1(x) w2(x) r1(y)")
        self.assertEqual(view_order(schedule), [3, 1, 4, 5, 6, 2])

    def test_seven_transactions(self):
        seven = ["c1 c2 c3 c4 c5 c6 c7", "r1(x) r2(x) r3(x) r4(x) r5(x) r6(x) r8(x) w1(x)"]
        seven.append("a1 c2 c3 c4 c5 c6 c7 c8")
        for text in seven:
            with self.subTest(text=text):
                with self.assertRaises(ScheduleError) as caught:
                    view_order(read_schedule(text))
                self.assertEqual((caught.exception.place, caught.exception.what), (0, "too many transactions"))

    def test_aborted_ones_do_not_count_among_the_six(self):
        self.assertEqual(view_order(read_schedule("c1 c2 a3 a4 c5 c6 c7 c8")), [1, 2, 5, 6, 7, 8])
        self.assertEqual(view_order(read_schedule("a1 a2 a3 a4 a5 a6 a7 w8(x)")), [8])

    def test_the_others_take_more_than_six(self):
        schedule = read_schedule("w8(x) r7(x) r1(x) r2(x) r3(x) r4(x) r5(x) r6(x)")
        self.assertEqual(serial_order(schedule), [8, 1, 2, 3, 4, 5, 6, 7])
        self.assertEqual(view_of(schedule)[0], [(t, "x", 8) for t in range(1, 8)])
        self.assertTrue(are_view_equivalent(schedule, schedule))


class NothingIsModifiedTest(unittest.TestCase):
    def test_the_schedules(self):
        for text, _, _ in ORDERS:
            schedule = read_schedule(text)
            before = copy.deepcopy(schedule)
            view_of(schedule)
            (view_order(schedule) or []).append(9)
            are_view_equivalent(schedule, schedule[::-1])
            with self.subTest(text=text):
                self.assertEqual(schedule, before)

    def test_defined_in_this_module(self):
        for function in [view_of, view_order, are_view_equivalent]:
            with self.subTest(function=function.__name__):
                self.assertEqual(function.__module__, "ordershown.conflicts")


if __name__ == "__main__":
    unittest.main()
