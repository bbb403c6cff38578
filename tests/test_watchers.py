"""Tests of ordershown.watchers: histories judged event by event."""

import copy
import unittest

import reference
from making import back, call
from ordershown.errors import HistoryError
from ordershown.histories import history, operations
from ordershown.watchers import Watcher

REGISTER = [("x", "register")]
THREE = [("c", "counter"), ("q", "queue"), ("s", "set")]

# (objects, the events, each with what fits is behind it, and live)
SEEN = [
    (REGISTER, [
        (call("a", "x", "write", 5), True, 2),
        # Nothing, the write, the read of 0, the read and the write, the write and the read.
        (call("b", "x", "read"), True, 5),
        # The write and the read, the read of 0 is gone.
        (back("b", 5), True, 1),
        (back("a", "ok"), True, 1),
        (call("b", "x", "read"), True, 2),
        (back("b", 0), False, 0),
        (call("a", "x", "write", 0), False, 0),
        (back("a", "ok"), False, 0),
    ]),
    # Whatever the order, each one gets the same result.
    (REGISTER, [
        (call("a", "x", "read"), True, 2),
        (call("b", "x", "swap", 0, 0), True, 4),
        (call("c", "x", "write", 0), True, 8),
    ]),
    # At the end two have the same operations placed and the same state, but the
    # read got 0 or 1.
    (REGISTER, [
        (call("a", "x", "read"), True, 2),
        (call("b", "x", "write", 1), True, 5),
        (back("b", "ok"), True, 3),
        (call("c", "x", "write", 0), True, 6),
        (back("c", "ok"), True, 3),
        (back("a", 0), True, 1),
    ]),
    (REGISTER, [
        (call("a", "x", "read"), True, 2),
        (call("b", "x", "write", 1), True, 5),
        (back("b", "ok"), True, 3),
        (call("c", "x", "write", 0), True, 6),
        (back("c", "ok"), True, 3),
        (back("a", 1), True, 1),
    ]),
    (THREE, [
        (call("a", "q", "take"), True, 2),
        (back("a", 7), False, 0),
        (call("a", "c", "get"), False, 0),
    ]),
    (THREE, [
        (call("a", "q", "put", 7), True, 2),
        (call("b", "q", "put", 8), True, 5),
        (call("d", "c", "add", 1), True, 10),
        (back("d", "ok"), True, 5),
        (back("a", "ok"), True, 3),
        (back("b", "ok"), True, 2),
        (call("a", "q", "take"), True, 4),
        (back("a", 8), True, 1),
        (call("d", "s", "has", 8), True, 2),
        (back("d", "yes"), False, 0),
    ]),
]

# (events that are seen, the event that has a fault, the fault)
FAULTS = [
    ([], call("A", "x", "read"), "wrong client"),
    ([call("a", "x", "read")], call("", "x", "read"), "wrong client"),
    ([call("a", "x", "read")], call("abcdefghi", "y", "jump"), "wrong client"),
    ([call("a", "x", "read")], call("a", "x", "read"), "call is pending"),
    ([call("b", "x", "read"), call("a", "x", "read")], call("a", "y", "jump"), "call is pending"),
    ([call("a", "x", "read")], call("b", "y", "jump"), "unknown object"),
    ([call("a", "x", "read"), back("a", 0)], call("a", "x", "jump", 100), "unknown operation"),
    ([call("a", "x", "read"), back("a", 0)], call("a", "x", "get"), "unknown operation"),
    ([], call("a", "x", "write"), "wrong arguments"),
    ([], call("a", "x", "write", 1, 2), "wrong arguments"),
    ([], call("a", "x", "write", 100), "wrong arguments"),
    ([], call("a", "x", "write", -1), "wrong arguments"),
    ([], back("a", "ok"), "nothing is pending"),
    ([call("a", "x", "read")], back("b", 0), "nothing is pending"),
    ([call("a", "x", "read"), back("a", 0)], back("a", 0), "nothing is pending"),
    ([call("a", "x", "read")], back("a", "ok"), "wrong result"),
    ([call("a", "x", "read")], back("a", -1), "wrong result"),
    ([call("a", "x", "read")], back("a", 10000), "wrong result"),
    ([call("a", "x", "write", 1)], back("a", 1), "wrong result"),
    # What was seen does not fit, and faults are told all the same.
    ([call("a", "x", "read"), back("a", 5)], back("a", 5), "nothing is pending"),
    ([call("a", "x", "read"), back("a", 5), call("b", "x", "read")], back("b", "no"), "wrong result"),
]

WRONG_OBJECTS = [
    [],
    [("y", "register"), ("x", "register")],
    [("x", "register"), ("x", "set")],
    [("a", "set"), ("b", "set"), ("c", "set"), ("d", "set")],
    [("X", "register")],
    [("", "register")],
    [("abcdefghi", "register")],
    [("x", "stack")],
]


def watcher_of(objects, events):
    watcher = Watcher(objects)
    for event in events:
        watcher.see(event)
    return watcher


def told_by(watcher):
    """All that a watcher tells of itself."""
    return watcher.history, watcher.fits, watcher.live, len(watcher), list(watcher)


def states_behind(watcher):
    """What the watcher tells, behind each event that is taken back, down to none."""
    other = watcher.branch()
    found = [told_by(other)]
    while other.undo():
        found.append(told_by(other))
    return found


class SeeTest(unittest.TestCase):
    def test_behind_each_event(self):
        for objects, rows in SEEN:
            watcher = Watcher(objects)
            events = []
            for event, fits, live in rows:
                with self.subTest(objects=objects, events=events, event=event):
                    self.assertIs(watcher.see(event), fits)
                    events.append(event)
                    self.assertIs(watcher.fits, fits)
                    self.assertEqual(watcher.live, live)
                    self.assertEqual(watcher.history, history(objects, events))
                    self.assertEqual(len(watcher), len(events))
                    self.assertEqual(list(watcher), events)

    def test_at_first(self):
        watcher = Watcher(THREE)
        self.assertEqual(told_by(watcher), ((tuple(THREE), ()), True, 1, 0, []))

    def test_small_histories(self):
        for objects, sizes in [
            ([("x", "register")], {"many": 5}),
            ([("x", "queue")], {"many": 4, "clients": "abc"}),
            ([("x", "set"), ("y", "counter")], {"many": 4, "calls": 2}),
        ]:
            for made in reference.small_histories(objects, **sizes):
                watcher = watcher_of(objects, made[1])
                self.assertEqual(watcher.live, self.live_positions(made), made)
                self.assertIs(watcher.fits, watcher.live > 0)

    def live_positions(self, made):
        """The placed operations, states and kept results of all orders, counted once each."""
        told = operations(made)
        found = set()
        for order in reference.orders(made, "real"):
            got, states = reference.run(made, order)
            kept = [pair for pair in zip(order, got) if told[pair[0]][6] is None]
            found.add((tuple(sorted(order)), states, tuple(sorted(kept))))
        return len(found)

    def test_going_through_the_events_again(self):
        watcher = watcher_of(REGISTER, [event for event, _, _ in SEEN[0][1]])
        first = [event for event in watcher]
        self.assertEqual(first, [event for event in watcher])
        self.assertEqual(first, [event for event, _, _ in SEEN[0][1]])

    def test_events_that_are_seen_while_they_are_gone_through(self):
        watcher = watcher_of(REGISTER, [call("a", "x", "read"), back("a", 0)])
        for event in watcher:
            watcher.see(event)
        self.assertEqual(len(watcher), 4)


class FaultsTest(unittest.TestCase):
    def refused(self, watcher, event, what):
        before = states_behind(watcher)
        with self.assertRaises(HistoryError) as caught:
            watcher.see(event)
        self.assertEqual((caught.exception.place, caught.exception.what), (len(watcher), what))
        self.assertEqual(states_behind(watcher), before)

    def test_each_fault(self):
        for events, event, what in FAULTS:
            with self.subTest(events=events, event=event):
                watcher = watcher_of(REGISTER, events)
                self.refused(watcher, event, what)
                self.assertEqual(watcher.history[1], tuple(events))

    def test_it_goes_on_behind_a_fault(self):
        watcher = watcher_of(REGISTER, [call("a", "x", "write", 5)])
        self.refused(watcher, call("a", "x", "read"), "call is pending")
        self.refused(watcher, back("a", 5), "wrong result")
        self.assertIs(watcher.see(call("b", "x", "read")), True)
        self.refused(watcher, back("c", 5), "nothing is pending")
        self.assertIs(watcher.see(back("b", 5)), True)
        self.assertEqual(len(watcher), 3)

    def test_the_eleventh_call(self):
        watcher = watcher_of(REGISTER, [event for n in range(9) for event in (call("a", "x", "read"), back("a", 0))])
        self.assertIs(watcher.see(call("a", "x", "read")), True)
        self.assertEqual(len(watcher), 19)
        self.refused(watcher, call("b", "x", "read"), "too many calls")
        self.assertIs(watcher.see(back("a", 0)), True)
        self.refused(watcher, call("a", "x", "read"), "too many calls")
        self.assertIs(watcher.undo(), True)
        self.assertIs(watcher.undo(), True)
        self.assertIs(watcher.see(call("b", "x", "read")), True)

    def test_the_eleventh_call_with_other_faults(self):
        watcher = watcher_of(REGISTER, [event for n in range(9) for event in (call("a", "x", "read"), back("a", 0))])
        watcher.see(call("a", "x", "read"))
        self.refused(watcher, call("B", "x", "read"), "wrong client")
        self.refused(watcher, call("a", "x", "read"), "call is pending")
        self.refused(watcher, call("b", "y", "read"), "unknown object")
        self.refused(watcher, call("b", "x", "get"), "unknown operation")
        self.refused(watcher, call("b", "x", "read", 1), "wrong arguments")
        self.refused(watcher, back("b", 0), "nothing is pending")
        self.refused(watcher, back("a", "ok"), "wrong result")

    def test_the_eleventh_call_where_nothing_fits(self):
        watcher = watcher_of(REGISTER, [event for n in range(10) for event in (call("a", "x", "read"), back("a", 7))])
        self.assertIs(watcher.fits, False)
        self.refused(watcher, call("a", "x", "read"), "too many calls")

    def test_wrong_objects(self):
        for objects in WRONG_OBJECTS:
            with self.subTest(objects=objects):
                with self.assertRaises(HistoryError) as caught:
                    Watcher(objects)
                self.assertEqual((caught.exception.place, caught.exception.what), (-1, "wrong objects"))


class UndoTest(unittest.TestCase):
    def test_back_to_the_first_state(self):
        for objects, rows in SEEN:
            watcher = Watcher(objects)
            before = [told_by(watcher)]
            for event, _, _ in rows:
                watcher.see(event)
                before.append(told_by(watcher))
            for expected in reversed(before[:-1]):
                self.assertIs(watcher.undo(), True)
                self.assertEqual(told_by(watcher), expected)
            self.assertIs(watcher.undo(), False)
            self.assertEqual(told_by(watcher), before[0])
            self.assertIs(watcher.undo(), False)

    def test_without_events(self):
        self.assertIs(Watcher(THREE).undo(), False)

    def test_what_is_pending_is_taken_back_too(self):
        watcher = watcher_of(REGISTER, [call("a", "x", "read"), back("a", 0)])
        watcher.undo()
        self.assertIs(watcher.see(back("a", 5)), False)
        watcher.undo()
        watcher.undo()
        self.assertIs(watcher.see(call("a", "x", "write", 1)), True)
        self.assertIs(watcher.see(back("a", "ok")), True)
        self.assertEqual(len(watcher), 2)

    def test_undo_and_go_on(self):
        watcher = watcher_of(REGISTER, [call("a", "x", "read"), back("a", 9), call("a", "x", "read")])
        watcher.undo()
        watcher.undo()
        watcher.see(back("a", 0))
        self.assertEqual(told_by(watcher), told_by(watcher_of(REGISTER, [call("a", "x", "read"), back("a", 0)])))
        self.assertEqual([watcher.undo(), watcher.undo(), watcher.undo()], [True, True, False])


class BranchTest(unittest.TestCase):
    def test_it_is_like_the_watcher(self):
        watcher = watcher_of(THREE, [event for event, _, _ in SEEN[5][1][:6]])
        other = watcher.branch()
        self.assertIs(type(other), Watcher)
        self.assertIsNot(other, watcher)
        self.assertEqual(told_by(other), told_by(watcher))
        self.assertEqual(states_behind(other), states_behind(watcher))

    def test_the_branch_goes_its_own_way(self):
        watcher = watcher_of(REGISTER, [call("a", "x", "write", 5), call("b", "x", "read")])
        before = states_behind(watcher)
        other = watcher.branch()
        self.assertIs(other.see(back("b", 7)), False)
        other.see(call("b", "x", "read"))
        self.assertEqual(states_behind(watcher), before)
        self.assertEqual([other.undo() for _ in range(5)], [True, True, True, True, False])
        self.assertEqual(states_behind(watcher), before)
        self.assertIs(watcher.see(back("b", 5)), True)

    def test_the_watcher_goes_its_own_way(self):
        watcher = watcher_of(REGISTER, [call("a", "x", "write", 5), call("b", "x", "read")])
        other = watcher.branch()
        before = states_behind(other)
        watcher.undo()
        watcher.see(back("a", "ok"))
        watcher.see(call("c", "x", "read"))
        self.assertEqual(states_behind(other), before)
        self.assertEqual([watcher.undo() for _ in range(4)], [True, True, True, False])
        self.assertEqual(states_behind(other), before)
        self.assertIs(other.see(back("b", 0)), True)

    def test_the_branch_refuses_what_the_watcher_does(self):
        watcher = watcher_of(REGISTER, [call("a", "x", "write", 5)])
        with self.assertRaises(HistoryError) as caught:
            watcher.branch().see(call("a", "x", "read"))
        self.assertEqual((caught.exception.place, caught.exception.what), (1, "call is pending"))

    def test_a_branch_without_events(self):
        other = Watcher(THREE).branch()
        self.assertEqual(told_by(other), told_by(Watcher(THREE)))
        self.assertIs(other.undo(), False)


class EqualityTest(unittest.TestCase):
    def test_the_same_history(self):
        events = [event for event, _, _ in SEEN[0][1]]
        self.assertTrue(watcher_of(REGISTER, events) == watcher_of(REGISTER, events))
        self.assertFalse(watcher_of(REGISTER, events) != watcher_of(REGISTER, events))
        self.assertTrue(Watcher(REGISTER) == Watcher(REGISTER))

    def test_what_can_be_taken_back_and_was_refused_does_not_count(self):
        one = watcher_of(REGISTER, [call("a", "x", "read"), back("a", 5)])
        one.undo()
        two = watcher_of(REGISTER, [call("a", "x", "read")])
        self.assertRaises(HistoryError, two.see, back("b", 0))
        self.assertTrue(one == two)

    def test_other_histories(self):
        one = watcher_of(REGISTER, [call("a", "x", "read")])
        self.assertFalse(one == watcher_of(REGISTER, [call("b", "x", "read")]))
        self.assertFalse(one == watcher_of(REGISTER, [call("a", "x", "read"), back("a", 0)]))
        self.assertFalse(one == Watcher(REGISTER))
        self.assertTrue(one != Watcher(REGISTER))

    def test_other_objects(self):
        self.assertFalse(Watcher(REGISTER) == Watcher([("y", "register")]))
        self.assertFalse(Watcher(REGISTER) == Watcher([("x", "set")]))
        self.assertFalse(Watcher(REGISTER) == Watcher([("x", "register"), ("y", "register")]))

    def test_values_that_are_no_watchers(self):
        watcher = Watcher(REGISTER)
        for other in (None, 0, "x", (), watcher.history, [], REGISTER):
            with self.subTest(other=other):
                self.assertIs(watcher.__eq__(other), NotImplemented)
                self.assertFalse(watcher == other)
                self.assertTrue(watcher != other)

    def test_no_hash(self):
        self.assertIsNone(Watcher.__hash__)
        with self.assertRaises(TypeError):
            hash(Watcher(REGISTER))


class InterfaceTest(unittest.TestCase):
    def test_properties_without_setters(self):
        watcher = watcher_of(REGISTER, [call("a", "x", "read")])
        before = told_by(watcher)
        for name, value in [("history", ((), ())), ("fits", False), ("live", 0)]:
            with self.subTest(name=name):
                with self.assertRaises(AttributeError):
                    setattr(watcher, name, value)
                with self.assertRaises(AttributeError):
                    delattr(watcher, name)
                self.assertEqual(told_by(watcher), before)

    def test_defined_in_the_class(self):
        self.assertEqual(Watcher.__module__, "ordershown.watchers")
        for name in ["history", "fits", "live", "see", "undo", "branch", "__len__", "__iter__", "__eq__"]:
            with self.subTest(name=name):
                self.assertIn(name, vars(Watcher))

    def test_the_list_of_objects_is_not_modified(self):
        objects = list(THREE)
        watcher = Watcher(objects)
        watcher.see(call("a", "q", "put", 1))
        self.assertEqual(objects, THREE)
        objects.clear()
        watcher.see(back("a", "ok"))
        self.assertEqual(watcher.branch().history[0], tuple(THREE))

    def test_a_history_that_was_told_stays(self):
        watcher = watcher_of(REGISTER, [call("a", "x", "read")])
        told = watcher.history
        before = copy.deepcopy(told)
        watcher.see(back("a", 0))
        self.assertEqual(told, before)


if __name__ == "__main__":
    unittest.main()
