"""Tests of ordershown.managers: lock tables with values, driven by calls."""

import copy
import unittest

import schedulereference
from ordershown.errors import ManagerError
from ordershown.managers import Manager, replayed
from ordershown.schedules import format_schedule

# (call, what it returns, or the what of the error that it raises) one after the
# other, and behind them the text of the history, the contents, who has ended,
# who is open, and the deadlock.
SCENES = {
    "nothing": ([], "", [], [], [], None),
    "values": (
        [
            (("read", 1, "x"), 0), (("write", 1, "x", 3), 3), (("read", 1, "x"), 3), (("read", 1, "x"), 3),
            (("write", 1, "y", -9), -3), (("read", 1, "y"), -3), (("write", 1, "a", -3), 0),
        ],
        "r1(x) w1(x) r1(x) r1(x) w1(y) r1(y) w1(a)", [("x", 3), ("y", -3)], [], [1], None,
    ),
    "a commit of a transaction without other calls": (
        [(("commit", 8), []), (("abort", 1), [])], "c8 a1", [], [1, 8], [], None,
    ),
    "readers beside each other": (
        [(("read", 2, "x"), 0), (("read", 1, "x"), 0), (("commit", 2), []), (("write", 1, "x", 5), 5)],
        "r2(x) r1(x) c2 w1(x)", [("x", 5)], [2], [1], None,
    ),
    "the same call again when the lock was granted": (
        [
            (("write", 1, "x", 4), 4), (("read", 2, "x"), None), (("commit", 1), [2]),
            (("read", 2, "x"), 4), (("write", 2, "y", 1), 5), (("commit", 2), []),
        ],
        "w1(x) c1 r2(x) w2(y) c2", [("x", 4), ("y", 5)], [1, 2], [], None,
    ),
    "a write again": (
        [
            (("read", 1, "x"), 0), (("read", 2, "x"), 0), (("write", 2, "x", 7), None), (("commit", 1), [2]),
            (("write", 2, "x", 7), 7),
        ],
        "r1(x) r2(x) c1 w2(x)", [("x", 7)], [1], [2], None,
    ),
    "granted several, in the order of the queues": (
        [
            (("write", 1, "y", 1), 1), (("write", 1, "x", 2), 2), (("read", 4, "y"), None), (("read", 3, "x"), None),
            (("read", 2, "x"), None), (("write", 5, "x", 0), None), (("abort", 1), [3, 2, 4]),
            (("read", 2, "x"), 0), (("read", 3, "x"), 0), (("read", 4, "y"), 0), (("commit", 3), []),
            (("commit", 2), [5]), (("write", 5, "x", 0), 0),
        ],
        "w1(y) w1(x) a1 r2(x) r3(x) r4(y) c3 c2 w5(x)", [], [1, 2, 3], [4, 5], None,
    ),
    "what an abort takes back": (
        [
            (("write", 1, "x", 5), 5), (("commit", 1), []), (("read", 2, "x"), 5), (("write", 2, "x", 1), 6),
            (("write", 2, "x", 2), 7), (("write", 2, "y", 0), 5), (("write", 3, "z", 1), 1), (("abort", 2), []),
            (("read", 4, "x"), 5), (("read", 4, "y"), 0),
        ],
        "w1(x) c1 r2(x) w2(x) w2(x) w2(y) w3(z) a2 r4(x) r4(y)", [("x", 5), ("z", 1)], [1, 2], [3, 4], None,
    ),
    "an abort while it waits": (
        [
            (("write", 1, "x", 5), 5), (("write", 2, "y", 2), 2), (("write", 2, "x", 1), None),
            (("read", 3, "x"), None), (("abort", 2), []), (("read", 4, "y"), 0), (("commit", 1), [3]),
        ],
        "w1(x) w2(y) a2 r4(y) c1", [("x", 5)], [1, 2], [3, 4], None,
    ),
    "an abort of who waits lets others through": (
        [(("read", 1, "x"), 0), (("write", 2, "x", 1), None), (("read", 3, "x"), None), (("abort", 2), [3])],
        "r1(x) a2", [], [2], [1, 3], None,
    ),
    "an abort of who owes a call": (
        [
            (("write", 1, "x", 5), 5), (("write", 2, "x", 1), None), (("read", 3, "x"), None), (("commit", 1), [2]),
            (("abort", 2), [3]), (("read", 3, "x"), 5),
        ],
        "w1(x) c1 a2 r3(x)", [("x", 5)], [1, 2], [3], None,
    ),
    "a deadlock is told, and nothing else": (
        [
            (("read", 1, "x"), 0), (("read", 2, "x"), 0), (("write", 1, "x", 1), None), (("write", 2, "x", 2), None),
            (("read", 3, "y"), 0), (("write", 4, "y", 0), None),
        ],
        "r1(x) r2(x) r3(y)", [], [], [1, 2, 3, 4], [1, 2],
    ),
    "a deadlock that an abort ends": (
        [
            (("write", 1, "x", 1), 1), (("write", 2, "y", 2), 2), (("read", 3, "z"), 0), (("read", 1, "y"), None),
            (("write", 3, "x", 1), None), (("write", 2, "z", 2), None), (("abort", 2), [1]), (("read", 1, "y"), 0),
        ],
        "w1(x) w2(y) r3(z) a2 r1(y)", [("x", 1)], [2], [1, 3], None,
    ),
    "refused, by numbers": (
        [
            (("read", 0, "x"), "no transaction"), (("read", 9, "x"), "no transaction"),
            (("write", -1, "x", 1), "no transaction"), (("write", 100, "x", 1), "no transaction"),
            (("commit", 0), "no transaction"), (("abort", 9), "no transaction"), (("read", 8, "x"), 0),
        ],
        "r8(x)", [], [], [8], None,
    ),
    "refused, as it has ended": (
        [
            (("commit", 1), []), (("read", 1, "x"), "ended"), (("write", 1, "x", 1), "ended"),
            (("commit", 1), "ended"), (("abort", 1), "ended"), (("abort", 2), []), (("read", 2, "x"), "ended"),
            (("write", 2, "x", 1), "ended"), (("commit", 2), "ended"), (("abort", 2), "ended"),
        ],
        "c1 a2", [], [1, 2], [], None,
    ),
    "refused, as it waits": (
        [
            (("write", 1, "x", 1), 1), (("read", 2, "x"), None), (("read", 2, "x"), "has to wait"),
            (("read", 2, "y"), "has to wait"), (("write", 2, "x", 1), "has to wait"), (("commit", 2), "has to wait"),
            (("abort", 2), []),
        ],
        "w1(x) a2", [("x", 1)], [2], [1], None,
    ),
    "refused, as it owes another call": (
        [
            (("write", 1, "x", 1), 1), (("write", 2, "x", 3), None), (("commit", 1), [2]),
            (("read", 2, "x"), "other call"), (("write", 2, "x", 2), "other call"),
            (("write", 2, "y", 3), "other call"), (("commit", 2), "other call"), (("write", 2, "x", 3), 3),
            (("write", 2, "x", 2), 2),
        ],
        "w1(x) c1 w2(x) w2(x)", [("x", 2)], [1], [2], None,
    ),
    "ended by an abort while it waited, or owed a call": (
        [
            (("write", 1, "x", 1), 1), (("read", 2, "x"), None), (("read", 3, "x"), None), (("abort", 2), []),
            (("read", 2, "x"), "ended"), (("abort", 1), [3]), (("abort", 3), []), (("read", 3, "x"), "ended"),
        ],
        "w1(x) a2 a1 a3", [], [1, 2, 3], [], None,
    ),
    "others go on while one waits": (
        [
            (("write", 1, "x", 1), 1), (("read", 2, "x"), None), (("write", 1, "x", 2), 2), (("read", 3, "y"), 0),
            (("commit", 3), []),
        ],
        "w1(x) w1(x) r3(y) c3", [("x", 2)], [3], [1, 2], None,
    ),
    "an upgrade at once, though another one waits": (
        [
            (("read", 1, "x"), 0), (("write", 2, "x", 3), None), (("write", 1, "x", 4), 4), (("commit", 1), [2]),
            (("write", 2, "x", 3), 3), (("abort", 2), []),
        ],
        "r1(x) w1(x) c1 w2(x) a2", [("x", 4)], [1, 2], [], None,
    ),
}


def answer_of(manager, call):
    """What a call returns, or the what of its error."""
    method = getattr(manager, call[0])
    try:
        return method(*call[1:])
    except ManagerError as fault:
        return fault.what


def manager_of(*calls):
    manager = Manager()
    for call in calls:
        answer_of(manager, call)
    return manager


def told_by(manager):
    """All that a manager tells of itself."""
    return (
        manager.history, manager.log, manager.contents, manager.ended, manager.deadlock(), len(manager),
        [t for t in range(-1, 11) if t in manager],
    )


def calls_of(shown):
    return [call for call, _ in SCENES[shown][0]]


class ScenesTest(unittest.TestCase):
    def test_what_is_returned_and_told(self):
        for shown, (told, text, contents, ended, are_open, ring) in SCENES.items():
            with self.subTest(shown=shown):
                manager = Manager()
                made = []
                for call, answer in told:
                    self.assertEqual(answer_of(manager, call), answer, call)
                    if not isinstance(answer, str):
                        made.append(call)
                    self.assertEqual(manager.log, made)
                    self.assertEqual(len(manager), len(made))
                self.assertEqual(format_schedule(manager.history), text)
                self.assertEqual(told_by(manager)[2:], (contents, ended, ring, len(made), are_open))

    def test_a_refused_call_changes_nothing(self):
        for shown, (told, _, _, _, _, _) in SCENES.items():
            manager = Manager()
            for call, answer in told:
                before, like = told_by(manager), manager.branch()
                answer_of(manager, call)
                if isinstance(answer, str):
                    with self.subTest(shown=shown, call=call):
                        self.assertEqual(told_by(manager), before)
                        self.assertTrue(manager == like)

    def test_numbers_come_first(self):
        manager = manager_of(("write", 1, "x", 1), ("read", 2, "x"), ("commit", 3))
        self.assertEqual(answer_of(manager, ("read", 9, "x")), "no transaction")
        self.assertEqual(answer_of(manager, ("read", 0, "x")), "no transaction")

    def test_errors(self):
        with self.assertRaises(ManagerError) as caught:
            Manager().read(0, "x")
        self.assertEqual(caught.exception.what, "no transaction")


class OpenTest(unittest.TestCase):
    def test_from_the_first_call_on(self):
        manager = Manager()
        self.assertFalse(1 in manager)
        manager.write(1, "x", 1)
        self.assertTrue(1 in manager)
        self.assertFalse(2 in manager)
        # A first call at which it has to wait counts, a refused one does not.
        manager.read(2, "x")
        self.assertTrue(2 in manager)
        answer_of(manager, ("read", 9, "x"))
        self.assertFalse(9 in manager)
        manager.commit(1)
        self.assertFalse(1 in manager)
        manager.abort(2)
        self.assertFalse(2 in manager)

    def test_any_value_may_be_asked(self):
        manager = manager_of(("read", 1, "x"))
        values = [None, "1", "x", b"1", 1.0, True, False, -1, 10**30, (), (1,), [], [1], {}, {1: 1}, {1}]
        values += [manager, Manager, ("read", 1, "x")]
        for value in values:
            with self.subTest(value=value):
                self.assertIs(value in manager, False)
        self.assertIs(1 in manager, True)


class Desk:
    """What a manager does, straight from the document, to compare with."""

    def __init__(self):
        self.locks = schedulereference.Locks("xy")
        self.log, self.history, self.writes = [], [], []
        self.sums, self.owed, self.ended = {}, {}, set()

    def fault(self, call):
        word, t = call[:2]
        if t not in range(1, 9):
            return "no transaction"
        if t in self.ended:
            return "ended"
        if word != "abort" and self.locks.waiting(t) is not None:
            return "has to wait"
        if word != "abort" and self.owed.get(t, call) != call:
            return "other call"
        return None

    def value(self, item):
        return ([0] + [value for _, other, value in self.writes if other == item])[-1]

    def contents(self):
        return [(item, self.value(item)) for item in "xy" if self.value(item) != 0]

    def answer(self, call):
        fault = self.fault(call)
        if fault is not None:
            return fault
        self.log.append(call)
        word, t, *rest = call
        self.owed.pop(t, None)
        if word in ("commit", "abort"):
            if word == "abort":
                self.writes = [told for told in self.writes if told[0] != t]
            self.history.append(call)
            self.ended.add(t)
            return self.locks.release(t)
        if self.locks.ask(t, rest[0], "shared" if word == "read" else "exclusive") == "waits":
            self.owed[t] = call
            return None
        self.history.append((word, t, rest[0]))
        if word == "read":
            self.sums[t] = self.sums.get(t, 0) + self.value(rest[0])
            return self.value(rest[0])
        self.writes.append((t, rest[0], self.sums.get(t, 0) + rest[1]))
        return self.value(rest[0])

    def told(self):
        pairs = self.locks.pairs()
        opened = sorted({call[1] for call in self.log} - self.ended)
        ring = schedulereference.ring_in(pairs)
        return self.history, self.log, self.contents(), sorted(self.ended), ring, len(self.log), opened

    def likeness(self):
        """What has to be the same for managers that are equal."""
        held = {item: sorted(held.items()) for item, held in self.locks.held.items()}
        return self.history, held, self.locks.queues, sorted(self.ended), self.owed


def calls_by(*transactions):
    calls = []
    for t in transactions:
        calls += [("read", t, "x"), ("write", t, "x", t), ("write", t, "y", t), ("commit", t), ("abort", t)]
    return calls


class AgainstTheDefinitionsTest(unittest.TestCase):
    def test_all_short_rows_of_calls(self):
        self.follow(Manager(), Desk(), calls_by(1, 2), 4)

    def test_longer_rows_of_three(self):
        calls = [("read", 1, "x"), ("read", 2, "x"), ("write", 1, "x", 1), ("write", 2, "x", 2), ("read", 3, "x")]
        manager, desk = Manager(), Desk()
        for call in [("write", 3, "x", 3), ("read", 1, "x"), ("read", 2, "x"), ("abort", 3)]:
            self.assertEqual(answer_of(manager, call), desk.answer(call))
        self.follow(manager, desk, [*calls, ("commit", 1), ("abort", 2)], 4)

    def follow(self, manager, desk, calls, many):
        """Compare all rows of so many more calls."""
        if many == 0:
            return
        for call in calls:
            other, told = manager.branch(), copy.deepcopy(desk)
            answer = told.answer(call)
            self.assertEqual(answer_of(other, call), answer, (manager.log, call))
            self.assertEqual(told_by(other), told.told(), (manager.log, call))
            # Behind a refused call all goes on as ahead of it.
            if not isinstance(answer, str):
                self.follow(other, told, calls, many - 1)


def all_rows(calls, many):
    """The managers and what has to be the same for each, of all rows of so many calls without an error."""
    found = [(Manager(), Desk())]
    latest = found
    for _ in range(many):
        longer = []
        for manager, desk in latest:
            for call in calls:
                other, told = manager.branch(), copy.deepcopy(desk)
                if not isinstance(told.answer(call), str):
                    answer_of(other, call)
                    longer.append((other, told))
        latest = longer
        found = found + longer
    return [(manager, desk.likeness()) for manager, desk in found]


class EqualityTest(unittest.TestCase):
    def check(self, calls, others, are):
        one, other = manager_of(*calls), manager_of(*others)
        self.assertIs(one == other, are)
        self.assertIs(other == one, are)
        self.assertIs(one != other, not are)

    def test_the_same_calls(self):
        for shown in SCENES:
            with self.subTest(shown=shown):
                self.check(calls_of(shown), calls_of(shown), True)

    def test_scenes_that_are_different(self):
        managers = [manager_of(*calls_of(shown)) for shown in SCENES]
        for place, one in enumerate(managers):
            for other in managers[:place]:
                self.assertFalse(one == other)

    def test_other_logs_and_the_same_history(self):
        waited = [("write", 1, "x", 1), ("read", 2, "x"), ("commit", 1), ("read", 2, "x")]
        straight = [("write", 1, "x", 1), ("commit", 1), ("read", 2, "x")]
        self.check(waited, straight, True)
        self.assertNotEqual(manager_of(*waited).log, manager_of(*straight).log)

    def test_other_numbers_that_were_written(self):
        # The history does not tell the numbers.
        self.check([("write", 1, "x", 1)], [("write", 1, "x", 2)], True)
        self.check([("write", 1, "x", 1), ("commit", 1)], [("write", 1, "x", 0), ("commit", 1)], True)

    def test_other_histories(self):
        self.check([("read", 1, "x"), ("read", 2, "x")], [("read", 2, "x"), ("read", 1, "x")], False)
        self.check([("commit", 1)], [("abort", 1)], False)
        self.check([("commit", 1)], [], False)
        self.check([("read", 1, "x")], [("read", 1, "x"), ("read", 1, "x")], False)

    def test_who_waits(self):
        held = [("write", 1, "x", 1)]
        self.check([*held, ("read", 2, "x")], held, False)
        self.check([*held, ("read", 2, "x")], [*held, ("read", 3, "x")], False)
        self.check([*held, ("read", 2, "x")], [*held, ("write", 2, "x", 1)], False)
        self.check([*held, ("write", 2, "x", 1)], [*held, ("write", 2, "x", 2)], False)
        self.check([*held, ("write", 2, "x", 1)], [*held, ("write", 2, "x", 1)], True)

    def test_the_order_in_each_queue(self):
        held = [("write", 1, "x", 1), ("write", 1, "y", 1)]
        two, three = ("read", 2, "x"), ("read", 3, "x")
        self.check([*held, two, three], [*held, three, two], False)
        # The queues of two items have no order between them.
        self.check([*held, two, ("read", 3, "y")], [*held, ("read", 3, "y"), two], True)

    def test_who_owes_a_call(self):
        calls = [("write", 1, "x", 1), ("read", 2, "x"), ("abort", 1)]
        self.check(calls, [("write", 1, "x", 1), ("abort", 1)], False)
        self.check(calls, [("write", 1, "x", 1), ("write", 2, "x", 1), ("abort", 1)], False)
        self.check(
            [("write", 1, "x", 1), ("write", 2, "x", 2), ("abort", 1)],
            [("write", 1, "x", 1), ("write", 2, "x", 1), ("abort", 1)], False,
        )
        # Both owe the same call, though one of them was asked for later.
        self.check(
            [("write", 1, "x", 1), ("read", 3, "x"), ("read", 2, "x"), ("abort", 1)],
            [("write", 1, "x", 1), ("read", 2, "x"), ("read", 3, "x"), ("abort", 1)], True,
        )

    def test_all_short_rows_of_calls(self):
        rows = all_rows(calls_by(1, 2), 3)
        self.assertGreater(len(rows), 300)
        alike = 0
        for place, (one, likeness) in enumerate(rows):
            for other, its in rows[:place:3]:
                self.assertIs(one == other, likeness == its)
                alike += likeness == its
        self.assertGreater(alike, 0)

    def test_values_that_are_no_managers(self):
        manager = Manager()
        for other in (None, 0, "x", (), [], manager.history, manager.log):
            with self.subTest(other=other):
                self.assertIs(manager.__eq__(other), NotImplemented)
                self.assertFalse(manager == other)
                self.assertTrue(manager != other)

    def test_no_hash(self):
        self.assertIsNone(Manager.__hash__)
        with self.assertRaises(TypeError):
            hash(Manager())


class BranchTest(unittest.TestCase):
    def test_like_it(self):
        for shown in SCENES:
            with self.subTest(shown=shown):
                manager = manager_of(*calls_of(shown))
                branch = manager.branch()
                self.assertIsNot(branch, manager)
                self.assertIs(type(branch), Manager)
                self.assertEqual(told_by(branch), told_by(manager))
                self.assertTrue(branch == manager)

    def test_goes_its_own_way(self):
        manager = manager_of(("write", 1, "x", 1), ("read", 2, "x"))
        before = told_by(manager)
        branch = manager.branch()
        self.assertEqual(branch.abort(1), [2])
        self.assertEqual(branch.read(2, "x"), 0)
        self.assertEqual(told_by(manager), before)
        behind = told_by(branch)
        self.assertEqual(manager.commit(1), [2])
        self.assertEqual(manager.read(2, "x"), 1)
        self.assertEqual(told_by(branch), behind)


class ReplayedTest(unittest.TestCase):
    def test_the_log_of_each_scene(self):
        for shown in SCENES:
            with self.subTest(shown=shown):
                manager = manager_of(*calls_of(shown))
                log = manager.log
                before = list(log)
                other = replayed(log)
                self.assertIs(type(other), Manager)
                self.assertTrue(other == manager)
                self.assertEqual(told_by(other), told_by(manager))
                self.assertEqual(log, before)

    def test_calls_that_returned_none(self):
        log = [("write", 1, "x", 1), ("read", 2, "x"), ("commit", 1), ("read", 2, "x")]
        manager = replayed(log)
        self.assertEqual((manager.log, len(manager)), (log, 4))
        self.assertEqual(format_schedule(manager.history), "w1(x) c1 r2(x)")

    def test_logs_with_a_call_that_is_refused(self):
        for shown, (told, _, _, _, _, _) in SCENES.items():
            faults = [answer for _, answer in told if isinstance(answer, str)]
            log = calls_of(shown)
            if faults:
                with self.subTest(shown=shown):
                    with self.assertRaises(ManagerError) as caught:
                        replayed(log)
                    self.assertEqual(caught.exception.what, faults[0])
                    self.assertEqual(log, calls_of(shown))

    def test_goes_its_own_way(self):
        manager = manager_of(("write", 1, "x", 1), ("read", 2, "x"))
        log = manager.log
        other = replayed(log)
        log.clear()
        other.abort(1)
        self.assertEqual(manager.commit(1), [2])
        self.assertEqual((manager.contents, other.contents), ([("x", 1)], []))
        self.assertEqual(other.log, [("write", 1, "x", 1), ("read", 2, "x"), ("abort", 1)])

    def test_the_empty_log(self):
        self.assertTrue(replayed([]) == Manager())


class InterfaceTest(unittest.TestCase):
    def test_properties_without_setters(self):
        manager = manager_of(("write", 1, "x", 1))
        before = told_by(manager)
        for name in ["history", "log", "contents", "ended"]:
            with self.subTest(name=name):
                with self.assertRaises(AttributeError):
                    setattr(manager, name, [])
                with self.assertRaises(AttributeError):
                    delattr(manager, name)
                self.assertEqual(told_by(manager), before)

    def test_new_lists(self):
        manager = manager_of(
            ("read", 1, "x"), ("read", 2, "x"), ("write", 3, "z", 1), ("abort", 8),
            ("write", 1, "x", 1), ("write", 2, "x", 1), ("read", 4, "z"),
        )
        before = told_by(manager)
        for part in (manager.history, manager.log, manager.contents, manager.ended, manager.deadlock()):
            self.assertIs(type(part), list)
            part.append(0)
            part.reverse()
        self.assertEqual(told_by(manager), before)
        branch = manager.branch()
        branch.abort(2).clear()
        manager.abort(2)
        self.assertEqual(told_by(manager), told_by(branch))

    def test_lists_that_were_told_stay(self):
        manager = manager_of(("write", 1, "x", 1))
        history, log, contents, ended = manager.history, manager.log, manager.contents, manager.ended
        manager.abort(1)
        self.assertEqual(
            (history, log, contents, ended), ([("write", 1, "x")], [("write", 1, "x", 1)], [("x", 1)], []),
        )

    def test_managers_of_their_own(self):
        one, other = Manager(), Manager()
        one.write(1, "x", 1)
        self.assertEqual(told_by(other), told_by(Manager()))

    def test_defined_in_the_class_and_the_module(self):
        self.assertEqual((Manager.__module__, replayed.__module__), ("ordershown.managers",) * 2)
        names = ["read", "write", "commit", "abort", "history", "log", "contents", "ended", "deadlock", "branch"]
        for name in [*names, "__len__", "__contains__", "__eq__"]:
            with self.subTest(name=name):
                self.assertIn(name, vars(Manager))


if __name__ == "__main__":
    unittest.main()
