"""Tests of ordershown.conflicts: conflict graphs, serial orders, rings and conflict equivalence."""

import copy
import unittest
from itertools import combinations, permutations

import schedulereference
from ordershown.conflicts import (
    are_conflict_equivalent,
    conflict_graph,
    order_of,
    ring_in,
    ring_of,
    serial_order,
    serial_schedule,
)
from ordershown.schedules import format_schedule, read_schedule, transactions_of, without_aborted

# (text, its conflict graph, its serial order, its ring)
SCHEDULES = [
    ("", [], [], None),
    ("c2 a1", [], [2], None),
    # One of each kind of conflict, and what is none.
    ("r1(x) w2(x)", [(1, 2)], [1, 2], None),
    ("w2(x) r1(x)", [(2, 1)], [2, 1], None),
    ("w2(x) w1(x)", [(2, 1)], [2, 1], None),
    ("r2(x) r1(x)", [], [1, 2], None),
    ("w2(x) w1(y) r2(z) r1(a)", [], [1, 2], None),
    ("r1(x) w1(x) r1(x) w1(x)", [], [1], None),
    # A pair once, however often it is met, and not only of neighbours.
    ("w1(x) w2(x) r2(x) w2(x) w1(y) r2(y)", [(1, 2)], [1, 2], None),
    ("w1(x) r3(y) c3 r4(x) w2(x)", [(1, 2), (1, 4), (4, 2)], [1, 3, 4, 2], None),
    # Aborted transactions are left out, before and behind their aborts.
    ("w1(x) w2(x) w1(x) a2", [], [1], None),
    ("w1(x) w2(x) w1(x) c2", [(1, 2), (2, 1)], None, [1, 2]),
    ("w1(x) w2(x) a1 w3(x) r2(x)", [(2, 3), (3, 2)], None, [2, 3]),
    # The least one that may come, each time.
    ("w5(x) r1(x) r4(y) r3(z)", [(5, 1)], [3, 4, 5, 1], None),
    ("w3(x) w1(x) w4(y) w2(y)", [(3, 1), (4, 2)], [3, 1, 4, 2], None),
    ("w2(x) w1(x) w1(y) w3(y)", [(1, 3), (2, 1)], [2, 1, 3], None),
    ("w8(x) w7(x) w7(y) w6(y) w6(z) w5(z)", [(6, 5), (7, 6), (8, 7)], [8, 7, 6, 5], None),
    # The shortest ring, though a longer one begins with a lesser transaction.
    (
        "w1(a) w2(a) w2(b) w3(b) w3(c) w1(c) w4(d) w5(d) w4(d)",
        [(1, 2), (2, 3), (3, 1), (4, 5), (5, 4)], None, [4, 5],
    ),
    # Of two of the same length the first one.
    (
        "w4(a) w3(a) w4(a) w2(b) w1(b) w2(b)",
        [(1, 2), (2, 1), (3, 4), (4, 3)], None, [1, 2],
    ),
    (
        "w1(a) w3(a) w3(b) w2(b) w2(c) w1(c)",
        [(1, 3), (2, 1), (3, 2)], None, [1, 3, 2],
    ),
    # What is not in the ring may come ahead of it.
    ("w1(a) w2(a) w2(b) w3(b) w2(b)", [(1, 2), (2, 3), (3, 2)], None, [2, 3]),
]

# (numbers, pairs, their order, their ring)
PAIRS = [
    ([], [], [], None),
    ([7], [], [7], None),
    ([3, -1, 0], [], [-1, 0, 3], None),
    ([3, -1, 0], [(3, -1)], [0, 3, -1], None),
    ([0, 5, -7, 2], [(0, -7), (5, 0)], [2, 5, 0, -7], None),
    ([1, 2], [(2, 1), (2, 1)], [2, 1], None),
    ([0, -1], [(0, -1), (-1, 0)], None, [-1, 0]),
    ([20, 10, 30], [(10, 30), (30, 20), (20, 10)], None, [10, 30, 20]),
    ([1, 2, 3], [(2, 3), (3, 2), (1, 2)], None, [2, 3]),
    # A ring of two is shorter than the one of three that begins with a lesser number.
    ([1, 2, 3, 4], [(1, 2), (2, 3), (3, 1), (3, 4), (4, 3)], None, [3, 4]),
    # Two rings of three share a beginning.
    ([1, 2, 3, 4], [(1, 2), (2, 4), (4, 1), (2, 3), (3, 1)], None, [1, 2, 3]),
    ([1, 2, 3, 4, 5], [(1, 5), (5, 2), (2, 1), (1, 4), (4, 3), (3, 1)], None, [1, 4, 3]),
    ([9, 8, 7], [(9, 8), (8, 9), (9, 7), (7, 9)], None, [7, 9]),
    # What leads to a ring, and what comes from it, is not in it.
    ([1, 2, 3, 4], [(1, 2), (2, 3), (3, 2), (3, 4)], None, [2, 3]),
]


class GraphTest(unittest.TestCase):
    def test_conflict_graph(self):
        for text, graph, _, _ in SCHEDULES:
            with self.subTest(text=text):
                self.assertEqual(conflict_graph(read_schedule(text)), graph)

    def test_serial_order(self):
        for text, _, order, _ in SCHEDULES:
            with self.subTest(text=text):
                self.assertEqual(serial_order(read_schedule(text)), order)

    def test_ring_of(self):
        for text, _, _, ring in SCHEDULES:
            with self.subTest(text=text):
                self.assertEqual(ring_of(read_schedule(text)), ring)

    def test_the_example_of_the_document(self):
        schedule = read_schedule("r1(x) w2(x) w1(x) w3(x)")
        self.assertEqual(conflict_graph(schedule), [(1, 2), (1, 3), (2, 1), (2, 3)])
        self.assertEqual(ring_of(schedule), [1, 2])
        self.assertIsNone(serial_order(schedule))

    def test_all_small_schedules(self):
        schedules = schedulereference.small_schedules((1, 2, 3), ("read", "write"), "xy", 4)
        schedules += schedulereference.small_schedules((1, 2), ("read", "write", "commit", "abort"), "x", 5)
        for schedule in schedules:
            pairs = schedulereference.graph(schedule)
            found = conflict_graph(schedule), serial_order(schedule), ring_of(schedule)
            numbers = schedulereference.numbers_of(schedule)
            self.assertEqual(
                found,
                (pairs, schedulereference.order_of(numbers, pairs), schedulereference.ring_in(pairs)),
                schedule,
            )


class PairsTest(unittest.TestCase):
    def test_order_of(self):
        for numbers, pairs, order, _ in PAIRS:
            with self.subTest(numbers=numbers, pairs=pairs):
                self.assertEqual(order_of(numbers, pairs), order)

    def test_ring_in(self):
        for numbers, pairs, _, ring in PAIRS:
            with self.subTest(numbers=numbers, pairs=pairs):
                self.assertEqual(ring_in(pairs), ring)

    def test_however_numbers_and_pairs_stand(self):
        for numbers, pairs, order, ring in PAIRS:
            for mixed in ([numbers[::-1], pairs[::-1]], [sorted(numbers), sorted(pairs)], [numbers, pairs * 2]):
                with self.subTest(mixed=mixed):
                    self.assertEqual(order_of(*mixed), order)
                    self.assertEqual(ring_in(mixed[1]), ring)

    def test_all_pairs_of_four_numbers(self):
        numbers = [0, -3, 5, 2]
        ways = list(permutations(numbers, 2))
        for many in range(len(ways) + 1):
            for pairs in combinations(ways, many):
                found = order_of(numbers, list(pairs)), ring_in(list(pairs))
                told = schedulereference.order_of(numbers, pairs), schedulereference.ring_in(pairs)
                self.assertEqual(found, told, pairs)

    def test_a_long_ring_and_long_rows(self):
        many = 200
        row = [(number, number - 1) for number in range(many, 0, -1)]
        numbers = list(range(many + 1))
        self.assertEqual(order_of(numbers, row), numbers[::-1])
        self.assertIsNone(ring_in(row))
        self.assertEqual(ring_in([*row, (0, many)]), [0, *range(many, 0, -1)])
        self.assertIsNone(order_of(numbers, [*row, (0, many)]))

    def test_many_ways_without_a_ring(self):
        numbers = list(range(-20, 20))
        pairs = [(one, two) for one in numbers for two in numbers if one > two]
        self.assertEqual(order_of(numbers, pairs), numbers[::-1])
        self.assertIsNone(ring_in(pairs))


# (text, order, the text of its serial schedule)
SERIAL = [
    ("", [], ""),
    ("r1(x) w2(x) w1(x) c2 w3(y)", [1, 2, 3], "r1(x) w1(x) w2(x) c2 w3(y)"),
    ("r1(x) w2(x) w1(x) c2 w3(y)", [3, 2, 1], "w3(y) w2(x) c2 r1(x) w1(x)"),
    ("r1(x) w2(x) r1(x) r1(y) c1", [2, 1], "w2(x) r1(x) r1(x) r1(y) c1"),
]

# (text, another one of the same operations, whether they are conflict equivalent)
EQUIVALENT = [
    ("", "", True),
    ("r1(x) r2(x)", "r2(x) r1(x)", True),
    ("r1(x) w2(x)", "w2(x) r1(x)", False),
    ("w1(x) r2(x)", "r2(x) w1(x)", False),
    ("w1(x) w2(x)", "w2(x) w1(x)", False),
    ("w1(x) w2(y)", "w2(y) w1(x)", True),
    # Within a transaction nothing conflicts, and ends conflict with nothing.
    ("w1(x) r1(x)", "r1(x) w1(x)", True),
    ("w1(x) c1 r2(y)", "r2(y) w1(x) c1", True),
    # The ends of two transactions.
    ("w1(x) c1 w2(x) c2", "w1(x) w2(x) c2 c1", True),
    # Of equal operations the first one counts as the first one.
    ("r1(x) w2(x) r1(x)", "r1(x) w2(x) r1(x)", True),
    ("r1(x) w2(x) r1(x)", "r1(x) r1(x) w2(x)", False),
    ("r1(x) w2(x) r1(x)", "w2(x) r1(x) r1(x)", False),
    ("w1(x) w2(x) w1(x) w2(x)", "w1(x) w1(x) w2(x) w2(x)", False),
    ("w1(x) w2(x) w1(x) w2(x)", "w1(x) w2(x) w2(x) w1(x)", False),
    # As many pairs stand one way and the other, but not the same ones.
    ("w1(x) w2(x) w2(x) w1(x)", "w2(x) w1(x) w1(x) w2(x)", False),
    ("r1(x) w2(x) w2(x) r1(x)", "w2(x) r1(x) r1(x) w2(x)", False),
    ("w1(x) w2(x) w1(x) r3(y) w2(x)", "r3(y) w1(x) w2(x) w1(x) w2(x)", True),
    ("r1(x) r2(x) r1(x) w3(x)", "r1(x) r1(x) r2(x) w3(x)", True),
]


class SerialScheduleTest(unittest.TestCase):
    def test_serial_schedule(self):
        for text, order, serial in SERIAL:
            with self.subTest(text=text, order=order):
                self.assertEqual(format_schedule(serial_schedule(read_schedule(text), order)), serial)


class ConflictEquivalenceTest(unittest.TestCase):
    def test_each_pair_of_schedules(self):
        for text, other, are in EQUIVALENT:
            with self.subTest(text=text, other=other):
                one, two = read_schedule(text), read_schedule(other)
                self.assertIs(are_conflict_equivalent(one, two), are)
                self.assertIs(are_conflict_equivalent(two, one), are)

    def test_all_orders_of_some_operations(self):
        for text in ["r1(x) w2(x) w2(x) r1(x) w3(x)", "w1(x) w1(x) r2(x) w2(y) c3", "r1(y) w2(x) w1(x) w2(y) r3(y)"]:
            schedule = read_schedule(text)
            for row in permutations(schedule):
                other = list(row)
                self.assertIs(
                    are_conflict_equivalent(schedule, other),
                    schedulereference.are_conflict_equivalent(schedule, other),
                    other,
                )

    def test_the_serial_schedule_of_the_serial_order(self):
        for schedule in schedulereference.small_schedules((1, 2, 3), ("read", "write"), "xy", 4):
            orders = list(permutations(transactions_of(schedule)))
            same = [
                list(order) for order in orders
                if are_conflict_equivalent(schedule, serial_schedule(schedule, list(order)))
            ]
            if serial_order(schedule) is None:
                self.assertEqual(same, [], schedule)
            else:
                self.assertEqual(same[0], serial_order(schedule), schedule)

    def test_a_schedule_with_a_ring_is_equivalent_to_no_serial_one(self):
        schedule = read_schedule("r1(x) w2(x) w2(y) w3(y) w3(z) r1(z)")
        self.assertEqual(ring_of(schedule), [1, 2, 3])
        for order in permutations([1, 2, 3]):
            with self.subTest(order=order):
                self.assertFalse(are_conflict_equivalent(schedule, serial_schedule(schedule, list(order))))


class NothingIsModifiedTest(unittest.TestCase):
    def test_schedules(self):
        for text, _, _, _ in SCHEDULES:
            schedule = read_schedule(text)
            before = copy.deepcopy(schedule)
            conflict_graph(schedule).append((9, 9))
            (serial_order(schedule) or []).append(9)
            (ring_of(schedule) or []).append(9)
            serial_schedule(schedule, transactions_of(schedule)).append(("commit", 9))
            are_conflict_equivalent(schedule, without_aborted(schedule))
            with self.subTest(text=text):
                self.assertEqual(schedule, before)

    def test_numbers_and_pairs(self):
        for numbers, pairs, _, _ in PAIRS:
            before = copy.deepcopy((numbers, pairs))
            (order_of(numbers, pairs) or []).append(9)
            (ring_in(pairs) or []).append(9)
            with self.subTest(numbers=numbers, pairs=pairs):
                self.assertEqual((numbers, pairs), before)

    def test_the_order_of_a_serial_schedule(self):
        order = [2, 1]
        serial_schedule(read_schedule("r1(x) w2(x)"), order)
        self.assertEqual(order, [2, 1])

    def test_defined_in_this_module(self):
        functions = [
            conflict_graph, serial_order, ring_of, order_of, ring_in, serial_schedule, are_conflict_equivalent,
        ]
        for function in functions:
            with self.subTest(function=function.__name__):
                self.assertEqual(function.__module__, "ordershown.conflicts")


if __name__ == "__main__":
    unittest.main()
