"""Tests of ordershown.locks: who holds, who waits, and who waits for whom."""

import unittest

import schedulereference
from ordershown.errors import LockError
from ordershown.locks import LockTable

S = "shared"
X = "exclusive"
ITEMS = "xy"


def table_of(calls):
    """A table behind these calls: (transaction, item, mode) asks, a transaction alone is released."""
    table = LockTable()
    for call in calls:
        if isinstance(call, tuple):
            table.ask(*call)
        else:
            table.release(call)
    return table


def told_by(table, items="abxyz"):
    """All that a table tells of itself."""
    return (
        [table.holders(item) for item in items],
        [table.queue(item) for item in items],
        [table.waiting(t) for t in range(1, 9)],
        table.pairs(),
        table.deadlock(),
    )


# (calls ahead, the call, its answer, the holders of x, the queue of x)
ASKED = [
    ([], (1, "x", S), "granted", [(1, S)], []),
    ([], (1, "x", X), "granted", [(1, X)], []),
    # What it holds already, or less.
    ([(1, "x", S)], (1, "x", S), "held", [(1, S)], []),
    ([(1, "x", X)], (1, "x", X), "held", [(1, X)], []),
    ([(1, "x", X)], (1, "x", S), "held", [(1, X)], []),
    # Beside others.
    ([(2, "x", S)], (1, "x", S), "granted", [(1, S), (2, S)], []),
    ([(2, "x", S)], (1, "x", X), "waits", [(2, S)], [(1, X)]),
    ([(2, "x", X)], (1, "x", S), "waits", [(2, X)], [(1, S)]),
    ([(2, "x", X)], (1, "x", X), "waits", [(2, X)], [(1, X)]),
    ([(3, "x", S), (2, "x", S)], (1, "x", S), "granted", [(1, S), (2, S), (3, S)], []),
    # Another item does not matter.
    ([(2, "y", X), (3, "y", S)], (1, "x", X), "granted", [(1, X)], []),
    ([(1, "y", X)], (1, "x", S), "granted", [(1, S)], []),
    # A queue that is not empty has to be waited for, whatever is held.
    ([(2, "x", S), (3, "x", X)], (1, "x", S), "waits", [(2, S)], [(3, X), (1, S)]),
    ([(2, "x", X), (3, "x", S)], (1, "x", S), "waits", [(2, X)], [(3, S), (1, S)]),
    # But not by who holds what is asked for.
    ([(2, "x", S), (3, "x", X)], (2, "x", S), "held", [(2, S)], [(3, X)]),
    ([(2, "x", X), (3, "x", X)], (2, "x", S), "held", [(2, X)], [(3, X)]),
    # Upgrades: at once, also though others are in the queue.
    ([(1, "x", S)], (1, "x", X), "granted", [(1, X)], []),
    ([(1, "x", S), (2, "x", X)], (1, "x", X), "granted", [(1, X)], [(2, X)]),
    ([(1, "x", S), (2, "x", X), (3, "x", S)], (1, "x", X), "granted", [(1, X)], [(2, X), (3, S)]),
    # Upgrades that wait: behind upgrades, ahead of all others.
    ([(1, "x", S), (2, "x", S)], (1, "x", X), "waits", [(1, S), (2, S)], [(1, X)]),
    (
        [(1, "x", S), (2, "x", S), (3, "x", X), (4, "x", S)], (2, "x", X), "waits",
        [(1, S), (2, S)], [(2, X), (3, X), (4, S)],
    ),
    (
        [(1, "x", S), (2, "x", S), (3, "x", X), (2, "x", X)], (1, "x", X), "waits",
        [(1, S), (2, S)], [(2, X), (1, X), (3, X)],
    ),
    (
        [(1, "x", S), (2, "x", S), (3, "x", S), (4, "x", S), (2, "x", X), (1, "x", X)], (3, "x", X), "waits",
        [(1, S), (2, S), (3, S), (4, S)], [(2, X), (1, X), (3, X)],
    ),
    # Asking again behind a grant.
    ([(1, "x", X), (2, "x", S), 1], (2, "x", S), "held", [(2, S)], []),
    ([(1, "x", X), (2, "x", S), 1], (2, "x", X), "granted", [(2, X)], []),
]


class AskTest(unittest.TestCase):
    def test_each_answer(self):
        for calls, call, answer, holders, queue in ASKED:
            with self.subTest(calls=calls, call=call):
                table = table_of(calls)
                self.assertEqual(table.ask(*call), answer)
                self.assertEqual(table.holders("x"), holders)
                self.assertEqual(table.queue("x"), queue)
                waiting = (call[1], call[2]) if answer == "waits" else None
                self.assertEqual(table.waiting(call[0]), waiting)

    def test_held_changes_nothing(self):
        for calls, call, answer, _, _ in ASKED:
            if answer == "held":
                with self.subTest(calls=calls, call=call):
                    table = table_of(calls)
                    before = told_by(table)
                    table.ask(*call)
                    self.assertEqual(told_by(table), before)

    def test_an_empty_table(self):
        table = LockTable()
        self.assertEqual(told_by(table), ([[]] * 5, [[]] * 5, [None] * 8, [], None))
        self.assertEqual(table.release(1), [])


class WaitsAlreadyTest(unittest.TestCase):
    def test_whatever_is_asked(self):
        calls = [(1, "x", S), (2, "x", S), (2, "y", S), (2, "x", X)]
        for call in [(2, "x", X), (2, "x", S), (2, "y", S), (2, "y", X), (2, "z", S)]:
            with self.subTest(call=call):
                table = table_of(calls)
                before = told_by(table)
                with self.assertRaises(LockError) as caught:
                    table.ask(*call)
                self.assertEqual(caught.exception.what, "waits already")
                self.assertEqual(told_by(table), before)

    def test_no_longer_behind_a_grant_or_a_release(self):
        self.assertEqual(table_of([(1, "x", X), (2, "x", X), 1]).ask(2, "y", X), "granted")
        self.assertEqual(table_of([(1, "x", X), (2, "x", X), 2]).ask(2, "x", X), "waits")

    def test_others_may_ask(self):
        self.assertEqual(table_of([(1, "x", X), (2, "x", X)]).ask(1, "y", S), "granted")


# (calls ahead, who is released, who is granted, the holders of x, the queue of x)
RELEASED = [
    ([], 1, [], [], []),
    ([(1, "x", X)], 1, [], [], []),
    ([(1, "x", X)], 2, [], [(1, X)], []),
    ([(1, "x", X), (2, "x", X), (3, "x", X)], 1, [2], [(2, X)], [(3, X)]),
    # Several from the front, as long as they are compatible.
    ([(1, "x", X), (3, "x", S), (2, "x", S)], 1, [3, 2], [(2, S), (3, S)], []),
    (
        [(1, "x", X), (4, "x", S), (2, "x", S), (5, "x", X), (3, "x", S)], 1, [4, 2],
        [(2, S), (4, S)], [(5, X), (3, S)],
    ),
    ([(1, "x", X), (4, "x", X), (2, "x", S)], 1, [4], [(4, X)], [(2, S)]),
    # Others still hold it.
    ([(1, "x", S), (2, "x", S), (3, "x", X)], 1, [], [(2, S)], [(3, X)]),
    ([(1, "x", S), (2, "x", S), (3, "x", X), 1], 2, [3], [(3, X)], []),
    # A waiting request that is taken away, and lets others through.
    ([(1, "x", X), (2, "x", X)], 2, [], [(1, X)], []),
    ([(1, "x", S), (2, "x", X), (3, "x", S), (4, "x", S)], 2, [3, 4], [(1, S), (3, S), (4, S)], []),
    ([(1, "x", S), (2, "x", X), (3, "x", S), (4, "x", X)], 2, [3], [(1, S), (3, S)], [(4, X)]),
    ([(1, "x", X), (2, "x", X), (3, "x", S)], 2, [], [(1, X)], [(3, S)]),
    # An upgrade that its own lock does not hinder.
    ([(1, "x", S), (2, "x", S), (1, "x", X)], 2, [1], [(1, X)], []),
    ([(1, "x", S), (2, "x", S), (3, "x", S), (1, "x", X)], 2, [], [(1, S), (3, S)], [(1, X)]),
    ([(1, "x", S), (2, "x", S), (3, "x", X), (1, "x", X)], 2, [1], [(1, X)], [(3, X)]),
    # Of two upgrades one is released: both its lock and its request go.
    ([(1, "x", S), (2, "x", S), (1, "x", X), (2, "x", X)], 1, [2], [(2, X)], []),
    ([(1, "x", S), (2, "x", S), (1, "x", X), (2, "x", X)], 2, [1], [(1, X)], []),
]


class ReleaseTest(unittest.TestCase):
    def test_each_release(self):
        for calls, t, granted, holders, queue in RELEASED:
            with self.subTest(calls=calls, t=t):
                table = table_of(calls)
                self.assertEqual(table.release(t), granted)
                self.assertEqual(table.holders("x"), holders)
                self.assertEqual(table.queue("x"), queue)
                self.assertIsNone(table.waiting(t))
                self.assertEqual([table.waiting(other) for other in granted], [None] * len(granted))

    def test_items_in_alphabetical_order(self):
        calls = [(1, item, X) for item in "zaby"]
        calls += [(2, "z", X), (6, "b", S), (5, "b", S), (4, "a", S), (3, "y", X), (7, "y", X)]
        table = table_of(calls)
        self.assertEqual(table.release(1), [4, 6, 5, 3, 2])
        holders = [[(4, S)], [(5, S), (6, S)], [], [(3, X)], [(2, X)]]
        queues = [[], [], [], [(7, X)], []]
        self.assertEqual(told_by(table)[:2], (holders, queues))

    def test_all_locks_of_the_transaction_alone(self):
        table = table_of([(1, "x", X), (1, "y", S), (2, "y", S), (1, "a", X), (2, "b", X)])
        self.assertEqual(table.release(1), [])
        self.assertEqual(told_by(table)[0], [[], [(2, X)], [], [(2, S)], []])

    def test_twice(self):
        table = table_of([(1, "x", X), (2, "x", X), 1])
        before = told_by(table)
        self.assertEqual(table.release(1), [])
        self.assertEqual(told_by(table), before)

    def test_who_was_released_may_ask_again(self):
        table = table_of([(1, "x", X), (2, "x", X), 1])
        self.assertEqual(table.ask(1, "x", S), "waits")
        self.assertEqual(table.release(2), [1])


# (calls, the waiting pairs, the deadlock)
WAITING = [
    ([], [], None),
    ([(1, "x", X), (2, "y", X)], [], None),
    ([(1, "x", X), (2, "x", X)], [(2, 1)], None),
    ([(1, "x", X), (2, "x", S)], [(2, 1)], None),
    ([(1, "x", S), (2, "x", S), (3, "x", X)], [(3, 1), (3, 2)], None),
    # Requests ahead in the queue, but not those that are shared like it.
    ([(1, "x", X), (2, "x", X), (3, "x", X)], [(2, 1), (3, 1), (3, 2)], None),
    ([(1, "x", X), (3, "x", S), (2, "x", S)], [(2, 1), (3, 1)], None),
    ([(1, "x", X), (3, "x", S), (2, "x", X)], [(2, 1), (2, 3), (3, 1)], None),
    ([(1, "x", X), (3, "x", X), (2, "x", S)], [(2, 1), (2, 3), (3, 1)], None),
    # A shared request waits for the request ahead, not for the shared lock.
    ([(1, "x", S), (2, "x", X), (3, "x", S)], [(2, 1), (3, 2)], None),
    # An upgrade does not wait for itself, others wait for it.
    ([(1, "x", S), (2, "x", S), (1, "x", X)], [(1, 2)], None),
    ([(1, "x", S), (2, "x", S), (3, "x", X), (1, "x", X)], [(1, 2), (3, 1), (3, 2)], None),
    ([(1, "x", S), (2, "x", S), (3, "x", S), (1, "x", X)], [(1, 2), (1, 3)], None),
    # A pair once, though it waits for the lock and for the request.
    ([(1, "x", S), (2, "x", S), (2, "x", X), (1, "x", X)], [(1, 2), (2, 1)], [1, 2]),
    # Deadlocks of two items, of three, and the shortest of several.
    ([(1, "x", X), (2, "y", X), (1, "y", X), (2, "x", X)], [(1, 2), (2, 1)], [1, 2]),
    ([(1, "x", S), (2, "y", S), (1, "y", X), (2, "x", X)], [(1, 2), (2, 1)], [1, 2]),
    (
        [(3, "x", X), (2, "y", X), (5, "z", X), (3, "y", S), (2, "z", S), (5, "x", S)],
        [(2, 5), (3, 2), (5, 3)], [2, 5, 3],
    ),
    (
        [(1, "x", X), (2, "y", X), (1, "y", S), (2, "x", S), (3, "z", S), (4, "z", S), (4, "z", X), (3, "z", X)],
        [(1, 2), (2, 1), (3, 4), (4, 3)], [1, 2],
    ),
    (
        [
            (1, "a", X), (2, "b", X), (3, "x", X), (1, "b", X), (2, "x", X), (3, "a", X),
            (7, "y", X), (8, "z", X), (8, "y", X), (7, "z", X),
        ],
        [(1, 2), (2, 3), (3, 1), (7, 8), (8, 7)], [7, 8],
    ),
    # By a queue: 3 waits for 2, which waits for 1, which waits for 3.
    (
        [(1, "x", S), (3, "y", X), (2, "x", X), (3, "x", S), (1, "y", S)],
        [(1, 3), (2, 1), (3, 2)], [1, 3, 2],
    ),
    # Gone behind a release.
    ([(1, "x", X), (2, "y", X), (1, "y", X), (2, "x", X), 2], [], None),
    ([(1, "x", X), (2, "x", X), (3, "x", X), 1], [(3, 2)], None),
    ([(1, "x", X), (2, "x", X), (3, "x", X), 2], [(3, 1)], None),
]


class PairsTest(unittest.TestCase):
    def test_pairs(self):
        for calls, pairs, _ in WAITING:
            with self.subTest(calls=calls):
                self.assertEqual(table_of(calls).pairs(), pairs)

    def test_deadlock(self):
        for calls, _, ring in WAITING:
            with self.subTest(calls=calls):
                self.assertEqual(table_of(calls).deadlock(), ring)

    def test_asking_whether_changes_nothing(self):
        for calls, _, _ in WAITING:
            with self.subTest(calls=calls):
                table = table_of(calls)
                before = told_by(table)
                self.assertEqual(told_by(table), before)


class AgainstTheDefinitionsTest(unittest.TestCase):
    def test_all_short_rows_of_calls(self):
        calls = [(t, item, mode) for t in (1, 2, 3) for item in ITEMS for mode in (S, X)] + [1, 2, 3]
        for first in calls:
            self.follow([first], calls, 4)

    def test_longer_rows_of_one_item(self):
        calls = [(t, "x", mode) for t in (1, 2, 3) for mode in (S, X)] + [1, 3]
        self.follow([(1, "x", S), (2, "x", S)], calls, 6)

    def follow(self, row, calls, many):
        """Compare all rows of so many calls that begin with this one."""
        self.compare(row)
        if len(row) < many:
            for call in calls:
                self.follow([*row, call], calls, many)

    def compare(self, row):
        table, told = LockTable(), schedulereference.Locks(ITEMS)
        for call in row:
            if isinstance(call, int):
                self.assertEqual(table.release(call), told.release(call), row)
            elif table.waiting(call[0]) is None:
                self.assertEqual(table.ask(*call), told.ask(*call), row)
            else:
                self.assertEqual(told.ask(*call), "refused", row)
        for item in ITEMS:
            self.assertEqual(table.holders(item), sorted(told.held[item].items()), row)
            self.assertEqual(table.queue(item), told.queues[item], row)
        self.assertEqual([table.waiting(t) for t in (1, 2, 3)], [told.waiting(t) for t in (1, 2, 3)], row)
        pairs = told.pairs()
        self.assertEqual((table.pairs(), table.deadlock()), (pairs, schedulereference.ring_in(pairs)), row)


class InterfaceTest(unittest.TestCase):
    def test_new_lists(self):
        table = table_of([(1, "x", X), (2, "y", X), (1, "y", X), (2, "x", X)])
        before = told_by(table)
        table.holders("x").append((3, S))
        table.queue("x").clear()
        table.pairs().clear()
        table.deadlock().reverse()
        self.assertEqual(told_by(table), before)
        table.release(2).append(8)
        self.assertEqual(told_by(table), told_by(table_of([(1, "x", X), (1, "y", X)])))

    def test_lists_that_were_told_stay(self):
        table = table_of([(1, "x", X), (2, "x", S)])
        holders, queue, pairs = table.holders("x"), table.queue("x"), table.pairs()
        table.release(1)
        self.assertEqual((holders, queue, pairs), ([(1, X)], [(2, S)], [(2, 1)]))

    def test_tables_of_their_own(self):
        one, two = LockTable(), LockTable()
        one.ask(1, "x", X)
        self.assertEqual(two.holders("x"), [])

    def test_kinds_of_values(self):
        table = table_of([(1, "x", X), (2, "x", X), (1, "y", S), (3, "y", X)])
        self.assertEqual([type(row) for row in (table.holders("x"), table.queue("x"), table.pairs())], [list] * 3)
        self.assertEqual(table.waiting(2), ("x", X))
        self.assertEqual([type(pair) for pair in table.holders("x") + table.queue("x") + table.pairs()], [tuple] * 4)

    def test_defined_in_the_class(self):
        self.assertEqual(LockTable.__module__, "ordershown.locks")
        for name in ["ask", "release", "holders", "queue", "waiting", "pairs", "deadlock"]:
            with self.subTest(name=name):
                self.assertIn(name, vars(LockTable))


if __name__ == "__main__":
    unittest.main()
