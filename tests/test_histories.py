"""Tests of ordershown.histories: how histories are made, and what is refused."""

import copy
import unittest

from making import back, call
from ordershown.errors import HistoryError
from ordershown.histories import beginning, history, operations, part, renamed, without

REGISTER = [("x", "register")]
THREE = [("c", "counter"), ("q", "queue"), ("s", "set")]

# For each kind: calls of all its operations, with all kinds of results.
GOOD = {
    "register": [
        (call("a", "x", "write", 0), "ok"),
        (call("a", "x", "read"), 9999),
        (call("a", "x", "read"), 0),
        (call("a", "x", "swap", 0, 99), "yes"),
        (call("a", "x", "swap", 99, 0), "no"),
    ],
    "counter": [
        (call("a", "x", "add", 99), "ok"),
        (call("a", "x", "get"), 0),
        (call("a", "x", "get"), 9999),
    ],
    "set": [
        (call("a", "x", "insert", 1), "yes"),
        (call("a", "x", "insert", 2), "no"),
        (call("a", "x", "remove", 3), "yes"),
        (call("a", "x", "remove", 4), "no"),
        (call("a", "x", "has", 5), "yes"),
        (call("a", "x", "has", 6), "no"),
    ],
    "queue": [
        (call("a", "x", "put", 7), "ok"),
        (call("a", "x", "take"), 0),
        (call("a", "x", "take"), 9999),
        (call("a", "x", "take"), "empty"),
    ],
}

WRONG_OBJECTS = {
    "none": [],
    "out of order": [("y", "register"), ("x", "register")],
    "out of order behind a good pair": [("a", "set"), ("c", "set"), ("b", "set")],
    "twice": [("x", "register"), ("x", "register")],
    "twice, of different kinds": [("x", "counter"), ("x", "register")],
    "four": [("a", "set"), ("b", "set"), ("c", "set"), ("d", "set")],
    "no kind": [("x", "stack")],
    "an empty kind": [("x", "")],
    "a kind with a capital letter": [("x", "Register")],
    "no kind in the second pair": [("x", "register"), ("y", "ok")],
    "an empty name": [("", "register")],
    "a capital letter": [("X", "register")],
    "a capital letter behind the first": [("xY", "register")],
    "a digit first": [("1x", "register")],
    "9 characters": [("abcdefghi", "register")],
    "a space": [("a b", "register")],
    "an underscore": [("a_b", "register")],
    "a newline": [("a\n", "register")],
    "a sign in front of the digits": [("/x", "register")],
    "a wrong name in the third pair": [("a", "set"), ("b", "set"), ("c-", "set")],
}

WRONG_NAMES = [
    "", "A", "Abc", "aBc", "1", "1a", "abcdefghi", " ", "a ", " a", "a b", "a_", "_a", "-", "a-b", "a\n",
    "`", "{", "a`", "a{", "a/", "a:", "a@", "a[",
]

GOOD_NAMES = ["a", "z", "a0", "a9", "z99", "abcdefgh", "a1234567", "call", "ok"]

# What a client may not call on objects of this kind.
WRONG_CALLS = [
    ("register", "add", (1,), "unknown operation"),
    ("register", "get", (), "unknown operation"),
    ("register", "", (), "unknown operation"),
    ("register", "Read", (), "unknown operation"),
    ("register", "register", (), "unknown operation"),
    ("counter", "read", (), "unknown operation"),
    ("counter", "write", (1,), "unknown operation"),
    ("set", "put", (1,), "unknown operation"),
    ("set", "take", (), "unknown operation"),
    ("queue", "insert", (1,), "unknown operation"),
    ("queue", "has", (1,), "unknown operation"),
    ("register", "write", (), "wrong arguments"),
    ("register", "write", (1, 2), "wrong arguments"),
    ("register", "write", (-1,), "wrong arguments"),
    ("register", "write", (100,), "wrong arguments"),
    ("register", "read", (1,), "wrong arguments"),
    ("register", "swap", (), "wrong arguments"),
    ("register", "swap", (1,), "wrong arguments"),
    ("register", "swap", (1, 2, 3), "wrong arguments"),
    ("register", "swap", (-1, 2), "wrong arguments"),
    ("register", "swap", (1, 100), "wrong arguments"),
    ("register", "swap", (100, 1), "wrong arguments"),
    ("register", "swap", (1, -1), "wrong arguments"),
    ("counter", "add", (), "wrong arguments"),
    ("counter", "add", (1, 1), "wrong arguments"),
    ("counter", "add", (100,), "wrong arguments"),
    ("counter", "get", (0,), "wrong arguments"),
    ("set", "insert", (), "wrong arguments"),
    ("set", "insert", (1, 2), "wrong arguments"),
    ("set", "remove", (), "wrong arguments"),
    ("set", "remove", (1, 2), "wrong arguments"),
    ("set", "has", (), "wrong arguments"),
    ("set", "has", (1, 2), "wrong arguments"),
    ("queue", "put", (), "wrong arguments"),
    ("queue", "put", (1, 2), "wrong arguments"),
    ("queue", "put", (-99,), "wrong arguments"),
    ("queue", "take", (1,), "wrong arguments"),
]

# What an operation may not return.
WRONG_RESULTS = [
    ("register", "write", (1,), ["yes", "no", "empty", "", "OK", 0, 1]),
    ("register", "read", (), ["ok", "yes", "no", "empty", "", "0", -1, 10000]),
    ("register", "swap", (1, 2), ["ok", "empty", 0, 1]),
    ("counter", "add", (1,), ["yes", "empty", 1]),
    ("counter", "get", (), ["ok", "empty", -1, 10000, 99999]),
    ("set", "insert", (1,), ["ok", "empty", 1]),
    ("set", "remove", (1,), ["ok", "empty", 1]),
    ("set", "has", (1,), ["ok", "empty", "true", 0]),
    ("queue", "put", (1,), ["yes", "empty", 1]),
    ("queue", "take", (), ["ok", "yes", "no", "", -1, 10000]),
]


class HistoryCase(unittest.TestCase):
    def refused(self, objects, events, place, what):
        with self.assertRaises(HistoryError) as caught:
            history(objects, events)
        self.assertEqual((caught.exception.place, caught.exception.what), (place, what))


class GoodHistoriesTest(HistoryCase):
    def check(self, objects, events):
        made = history(objects, events)
        self.assertIs(type(made), tuple)
        self.assertEqual(made, (tuple(objects), tuple(events)))

    def test_each_kind_of_object(self):
        for kind, pairs in GOOD.items():
            with self.subTest(kind=kind):
                events = [event for made, result in pairs for event in (made, back("a", result))]
                self.check([("x", kind)], events)

    def test_one_two_and_three_objects_without_events(self):
        for many in (1, 2, 3):
            with self.subTest(many=many):
                self.check(THREE[:many], [])

    def test_names_of_objects(self):
        for name in GOOD_NAMES:
            with self.subTest(name=name):
                self.check([(name, "set")], [call("a", name, "has", 1)])

    def test_ascending_as_strings(self):
        self.check([("a", "set"), ("a10", "set"), ("a9", "set")], [])

    def test_names_of_clients(self):
        for client in GOOD_NAMES:
            with self.subTest(client=client):
                self.check(REGISTER, [call(client, "x", "read"), back(client, 0)])

    def test_calls_that_overlap(self):
        self.check(THREE, [
            call("a", "c", "add", 1),
            call("b", "q", "take"),
            back("b", "empty"),
            call("b", "s", "insert", 3),
            back("a", "ok"),
        ])

    def test_results_need_not_be_right(self):
        self.check(REGISTER, [call("a", "x", "read"), back("a", 77)])

    def test_arguments_at_the_limits(self):
        self.check(REGISTER, [call("a", "x", "swap", 0, 99), call("b", "x", "swap", 99, 0)])

    def test_ten_calls(self):
        self.check(REGISTER, [call(f"a{n}", "x", "read") for n in range(10)])
        self.check(REGISTER, [event for n in range(10) for event in (call("a", "x", "read"), back("a", n))])


class WrongObjectsTest(HistoryCase):
    def test_wrong_objects(self):
        for about, objects in WRONG_OBJECTS.items():
            with self.subTest(about=about):
                self.refused(objects, [], -1, "wrong objects")

    def test_each_wrong_name(self):
        for name in WRONG_NAMES:
            with self.subTest(name=name):
                self.refused([(name, "set")], [], -1, "wrong objects")

    def test_told_ahead_of_all_faults_of_events(self):
        self.refused([], [call("A", "x", "read")], -1, "wrong objects")
        self.refused([], [call(f"a{n}", "x", "read") for n in range(11)], -1, "wrong objects")


class WrongEventsTest(HistoryCase):
    def test_client_that_is_no_name(self):
        for client in WRONG_NAMES:
            with self.subTest(client=client):
                self.refused(REGISTER, [call(client, "x", "read")], 0, "wrong client")

    def test_call_while_one_is_pending(self):
        events = [call("a", "x", "read"), call("b", "x", "read"), call("a", "x", "read")]
        self.refused(REGISTER, events, 2, "call is pending")
        events = [call("a", "x", "read"), back("a", 0), call("a", "x", "read"), call("a", "x", "read")]
        self.refused(REGISTER, events, 3, "call is pending")

    def test_a_pending_call_on_another_object(self):
        events = [call("a", "c", "get"), call("a", "q", "take")]
        self.refused(THREE, events, 1, "call is pending")

    def test_unknown_object(self):
        for name in ("y", "", "X", "xx", "register"):
            with self.subTest(name=name):
                self.refused(REGISTER, [call("a", name, "read")], 0, "unknown object")

    def test_wrong_calls(self):
        for kind, operation, arguments, what in WRONG_CALLS:
            with self.subTest(kind=kind, operation=operation, arguments=arguments):
                events = [call("b", "x", operation, *arguments)]
                self.refused([("x", kind)], events, 0, what)

    def test_the_kind_is_that_of_the_object(self):
        self.refused(THREE, [call("a", "c", "get"), call("b", "q", "get")], 1, "unknown operation")
        self.refused(THREE, [call("a", "q", "take"), call("b", "s", "take")], 1, "unknown operation")

    def test_return_while_nothing_is_pending(self):
        self.refused(REGISTER, [back("a", "ok")], 0, "nothing is pending")
        self.refused(REGISTER, [back("A", "ok")], 0, "nothing is pending")
        self.refused(REGISTER, [call("a", "x", "read"), back("b", 0)], 1, "nothing is pending")
        events = [call("a", "x", "read"), back("a", 0), back("a", 0)]
        self.refused(REGISTER, events, 2, "nothing is pending")

    def test_wrong_results(self):
        for kind, operation, arguments, results in WRONG_RESULTS:
            for result in results:
                with self.subTest(kind=kind, operation=operation, result=result):
                    events = [call("a", "x", operation, *arguments), back("a", result)]
                    self.refused([("x", kind)], events, 1, "wrong result")

    def test_the_result_belongs_to_the_pending_call(self):
        events = [call("a", "x", "write", 1), call("b", "x", "read"), back("a", 1)]
        self.refused(REGISTER, events, 2, "wrong result")
        events = [call("a", "x", "read"), back("a", 1), call("a", "x", "write", 1), back("a", 1)]
        self.refused(REGISTER, events, 3, "wrong result")


class TooManyCallsTest(HistoryCase):
    def test_eleven_calls(self):
        events = [call(f"a{n}", "x", "read") for n in range(11)]
        self.refused(REGISTER, events, 11, "too many calls")

    def test_the_place_is_the_number_of_all_events(self):
        events = [event for n in range(12) for event in (call("a", "x", "read"), back("a", n))]
        self.refused(REGISTER, events, 24, "too many calls")

    def test_behind_all_other_faults(self):
        events = [call(f"a{n}", "x", "read") for n in range(11)]
        self.refused(REGISTER, events + [back("a3", "ok")], 11, "wrong result")
        self.refused(REGISTER, events + [back("b", "ok")], 11, "nothing is pending")
        self.refused(REGISTER, events[:10] + [call("a3", "x", "read")], 10, "call is pending")


class FirstFaultTest(HistoryCase):
    def test_of_two_events_the_first_one(self):
        events = [call("a", "x", "read"), back("a", "ok"), call("A", "x", "read")]
        self.refused(REGISTER, events, 1, "wrong result")
        events = [call("a", "x", "write"), back("b", 0)]
        self.refused(REGISTER, events, 0, "wrong arguments")

    def test_of_one_call_the_first_one(self):
        busy = call("a", "x", "read")
        self.refused(REGISTER, [call("A", "y", "jump", -1)], 0, "wrong client")
        self.refused(REGISTER, [busy, call("a", "y", "jump", -1)], 1, "call is pending")
        self.refused(REGISTER, [busy, call("b", "y", "jump", -1)], 1, "unknown object")
        self.refused(REGISTER, [busy, call("b", "x", "jump", -1)], 1, "unknown operation")
        self.refused(REGISTER, [busy, call("b", "x", "read", -1)], 1, "wrong arguments")


MIXED = history(THREE, [
    call("a", "c", "add", 5),
    call("b", "q", "put", 7),
    back("b", "ok"),
    call("b", "c", "get"),
    back("a", "ok"),
    call("a", "s", "has", 5),
    call("d", "q", "take"),
    back("d", 7),
    back("a", "no"),
    call("d", "q", "take"),
])


class OperationsTest(unittest.TestCase):
    def test_complete_and_pending_ones(self):
        self.assertEqual(operations(MIXED), [
            ("a", "c", "add", (5,), "ok", 0, 4),
            ("b", "q", "put", (7,), "ok", 1, 2),
            ("b", "c", "get", (), None, 3, None),
            ("a", "s", "has", (5,), "no", 5, 8),
            ("d", "q", "take", (), 7, 6, 7),
            ("d", "q", "take", (), None, 9, None),
        ])

    def test_kinds_of_values(self):
        found = operations(MIXED)
        self.assertIs(type(found), list)
        self.assertEqual({type(told) for told in found}, {tuple})

    def test_result_0_is_no_pending_call(self):
        made = history(REGISTER, [call("a", "x", "read"), back("a", 0)])
        self.assertEqual(operations(made), [("a", "x", "read", (), 0, 0, 1)])

    def test_no_events(self):
        self.assertEqual(operations(history(REGISTER, [])), [])

    def test_the_returned_list_is_new(self):
        found = operations(MIXED)
        expected = list(found)
        found.reverse()
        found.pop()
        self.assertEqual(operations(MIXED), expected)


class PartTest(unittest.TestCase):
    def test_each_part(self):
        self.assertEqual(part(MIXED, "c"), ((("c", "counter"),), (
            call("a", "c", "add", 5), call("b", "c", "get"), back("a", "ok"),
        )))
        self.assertEqual(part(MIXED, "q"), ((("q", "queue"),), (
            call("b", "q", "put", 7), back("b", "ok"), call("d", "q", "take"), back("d", 7), call("d", "q", "take"),
        )))
        self.assertEqual(part(MIXED, "s"), ((("s", "set"),), (
            call("a", "s", "has", 5), back("a", "no"),
        )))

    def test_of_the_only_object(self):
        made = history(REGISTER, [call("a", "x", "read"), back("a", 0)])
        self.assertEqual(part(made, "x"), made)

    def test_of_an_object_without_operations(self):
        made = history(THREE, [call("a", "c", "get")])
        self.assertEqual(part(made, "q"), ((("q", "queue"),), ()))


class BeginningTest(unittest.TestCase):
    def test_each_number_of_events(self):
        for many in range(len(MIXED[1]) + 1):
            with self.subTest(many=many):
                found = beginning(MIXED, many)
                self.assertEqual(found, (tuple(THREE), MIXED[1][:many]))
                self.assertEqual(history(list(found[0]), list(found[1])), found)

    def test_none_and_all(self):
        self.assertEqual(beginning(MIXED, 0), (tuple(THREE), ()))
        self.assertEqual(beginning(MIXED, len(MIXED[1])), MIXED)


class WithoutTest(unittest.TestCase):
    def test_none(self):
        self.assertEqual(without(MIXED, []), MIXED)

    def test_all(self):
        self.assertEqual(without(MIXED, [0, 1, 2, 3, 4, 5]), (tuple(THREE), ()))

    def test_one_that_is_complete(self):
        events = list(MIXED[1])
        self.assertEqual(without(MIXED, [0])[1], tuple(events[1:4] + events[5:]))

    def test_one_that_is_pending(self):
        events = list(MIXED[1])
        self.assertEqual(without(MIXED, [2])[1], tuple(events[:3] + events[4:]))
        self.assertEqual(without(MIXED, [5])[1], tuple(events[:9]))

    def test_several_in_any_order(self):
        expected = (tuple(THREE), (
            call("b", "c", "get"), call("a", "s", "has", 5), back("a", "no"), call("d", "q", "take"),
        ))
        self.assertEqual(without(MIXED, [4, 0, 1]), expected)
        self.assertEqual(without(MIXED, [0, 1, 4]), expected)

    def test_all_objects_stay(self):
        self.assertEqual(without(MIXED, [3])[0], tuple(THREE))


class RenamedTest(unittest.TestCase):
    def refused(self, names):
        with self.assertRaises(HistoryError) as caught:
            renamed(MIXED, names)
        self.assertEqual((caught.exception.place, caught.exception.what), (-1, "wrong client"))

    def clients(self, some_history):
        return "".join(event[1] for event in some_history[1])

    def test_other_names(self):
        found = renamed(MIXED, {"a": "anna", "b": "ben", "d": "dora"})
        self.assertEqual(found[0], tuple(THREE))
        self.assertEqual(found[1][:4], (
            call("anna", "c", "add", 5), call("ben", "q", "put", 7), back("ben", "ok"), call("ben", "c", "get"),
        ))
        self.assertEqual(renamed(found, {"anna": "a", "ben": "b", "dora": "d"}), MIXED)

    def test_names_that_are_changed_about(self):
        self.assertEqual(self.clients(MIXED), "abbbaaddad")
        self.assertEqual(self.clients(renamed(MIXED, {"a": "b", "b": "a"})), "baaabbddbd")
        self.assertEqual(self.clients(renamed(MIXED, {"a": "b", "b": "d", "d": "a"})), "bdddbbaaba")

    def test_a_name_that_another_client_gave_up(self):
        self.assertEqual(self.clients(renamed(MIXED, {"a": "b", "b": "e"})), "beeebbddbd")

    def test_a_client_without_a_new_name_keeps_its_name(self):
        self.assertEqual(self.clients(renamed(MIXED, {"b": "x"})), "axxxaaddad")

    def test_no_change(self):
        self.assertEqual(renamed(MIXED, {}), MIXED)
        self.assertEqual(renamed(MIXED, {"a": "a", "b": "b"}), MIXED)

    def test_clients_that_do_not_occur(self):
        self.assertEqual(renamed(MIXED, {"e": "a", "f": "a", "g": "Not a name", "x": ""}), MIXED)

    def test_two_clients_of_one_name(self):
        self.refused({"a": "b"})
        self.refused({"a": "e", "d": "e"})
        self.refused({"a": "b", "b": "d"})

    def test_what_is_no_name(self):
        for name in WRONG_NAMES:
            with self.subTest(name=name):
                self.refused({"d": name})

    def test_good_names(self):
        for name in GOOD_NAMES:
            with self.subTest(name=name):
                there = renamed(MIXED, {"b": "y", "a": "x", "d": name})
                self.assertEqual(self.clients(there), self.clients(MIXED).translate({97: "x", 98: "y", 100: name}))
                self.assertEqual(renamed(there, {"y": "b", "x": "a", name: "d"}), MIXED)

    def test_a_client_whose_call_is_pending(self):
        made = history(REGISTER, [call("a", "x", "read")])
        self.assertEqual(renamed(made, {"a": "b"}), (tuple(REGISTER), (call("b", "x", "read"),)))

    def test_without_events(self):
        made = history(REGISTER, [])
        self.assertEqual(renamed(made, {"a": ""}), made)


class NothingIsModifiedTest(unittest.TestCase):
    def test_the_lists_of_history(self):
        objects = list(THREE)
        events = list(MIXED[1])
        made = history(objects, events)
        self.assertEqual((objects, events), (list(THREE), list(MIXED[1])))
        objects.pop()
        events.clear()
        self.assertEqual(made, MIXED)

    def test_the_lists_where_a_fault_is_found(self):
        objects = [("y", "set"), ("x", "set")]
        self.assertRaises(HistoryError, history, objects, [])
        self.assertEqual(objects, [("y", "set"), ("x", "set")])

    def test_numbers_and_names(self):
        numbers = [4, 0, 2]
        without(MIXED, numbers)
        self.assertEqual(numbers, [4, 0, 2])
        names = {"b": "a", "a": "b"}
        renamed(MIXED, names)
        self.assertEqual(names, {"b": "a", "a": "b"})

    def test_the_history(self):
        before = copy.deepcopy(MIXED)
        operations(MIXED)
        part(MIXED, "q")
        beginning(MIXED, 3)
        without(MIXED, [1])
        renamed(MIXED, {"a": "e"})
        self.assertEqual(MIXED, before)

    def test_defined_in_this_module(self):
        for function in [history, operations, part, beginning, without, renamed]:
            with self.subTest(function=function.__name__):
                self.assertEqual(function.__module__, "ordershown.histories")


if __name__ == "__main__":
    unittest.main()
