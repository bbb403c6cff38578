"""Tests of ordershown.objects."""

import unittest

from ordershown.objects import first_state, is_possible, operations_of_kind, step

OPERATIONS = {
    "register": ["write", "read", "swap"],
    "counter": ["add", "get"],
    "set": ["insert", "remove", "has"],
    "queue": ["put", "take"],
}

# Each operation with the strings that are possible for it, and whether
# integers are.
POSSIBLE = [
    ("register", "write", ["ok"], False),
    ("register", "read", [], True),
    ("register", "swap", ["yes", "no"], False),
    ("counter", "add", ["ok"], False),
    ("counter", "get", [], True),
    ("set", "insert", ["yes", "no"], False),
    ("set", "remove", ["yes", "no"], False),
    ("set", "has", ["yes", "no"], False),
    ("queue", "put", ["ok"], False),
    ("queue", "take", ["empty"], True),
]


class KindsTest(unittest.TestCase):
    def check_first_state(self, kind, expected):
        found = first_state(kind)
        self.assertIs(type(found), type(expected))
        self.assertEqual(found, expected)

    def test_first_states(self):
        self.check_first_state("register", 0)
        self.check_first_state("counter", 0)
        self.check_first_state("set", ())
        self.check_first_state("queue", ())

    def test_operations_in_the_order_of_the_table(self):
        for kind, expected in OPERATIONS.items():
            with self.subTest(kind=kind):
                self.assertEqual(operations_of_kind(kind), expected)

    def test_the_list_of_operations_is_new(self):
        for kind, expected in OPERATIONS.items():
            with self.subTest(kind=kind):
                changed = operations_of_kind(kind)
                changed.reverse()
                changed.append("jump")
                changed[0] = "run"
                self.assertEqual(operations_of_kind(kind), expected)

    def test_defined_in_this_module(self):
        for function in [first_state, operations_of_kind, step, is_possible]:
            with self.subTest(function=function.__name__):
                self.assertEqual(function.__module__, "ordershown.objects")


class StepCase(unittest.TestCase):
    def check(self, kind, state, operation, arguments, expected):
        found = step(kind, state, operation, arguments)
        self.assertIs(type(found), tuple)
        self.assertEqual(found, expected)


class RegisterTest(StepCase):
    def test_write(self):
        self.check("register", 0, "write", (5,), (5, "ok"))
        self.check("register", 7, "write", (0,), (0, "ok"))
        self.check("register", 99, "write", (99,), (99, "ok"))

    def test_read(self):
        self.check("register", 0, "read", (), (0, 0))
        self.check("register", 99, "read", (), (99, 99))

    def test_swap_where_the_state_is_the_first_value(self):
        self.check("register", 3, "swap", (3, 5), (5, "yes"))
        self.check("register", 0, "swap", (0, 99), (99, "yes"))
        self.check("register", 4, "swap", (4, 4), (4, "yes"))

    def test_swap_where_the_state_is_another_value(self):
        self.check("register", 3, "swap", (4, 5), (3, "no"))
        self.check("register", 5, "swap", (3, 5), (5, "no"))
        self.check("register", 0, "swap", (1, 2), (0, "no"))


class CounterTest(StepCase):
    def test_add(self):
        self.check("counter", 0, "add", (0,), (0, "ok"))
        self.check("counter", 4, "add", (3,), (7, "ok"))

    def test_get(self):
        self.check("counter", 0, "get", (), (0, 0))
        self.check("counter", 42, "get", (), (42, 42))

    def test_sums_beyond_the_values(self):
        self.check("counter", 99, "add", (1,), (100, "ok"))
        self.check("counter", 99, "add", (99,), (198, "ok"))
        self.check("counter", 891, "add", (99,), (990, "ok"))
        self.check("counter", 100, "get", (), (100, 100))
        self.check("counter", 990, "get", (), (990, 990))


class SetTest(StepCase):
    def test_insert_of_a_value_that_is_not_in_it(self):
        self.check("set", (), "insert", (0,), ((0,), "yes"))
        self.check("set", (2, 7), "insert", (1,), ((1, 2, 7), "yes"))
        self.check("set", (2, 7), "insert", (5,), ((2, 5, 7), "yes"))
        self.check("set", (2, 7), "insert", (10,), ((2, 7, 10), "yes"))

    def test_insert_of_a_value_that_is_in_it(self):
        self.check("set", (5,), "insert", (5,), ((5,), "no"))
        self.check("set", (2, 5, 7), "insert", (5,), ((2, 5, 7), "no"))

    def test_remove_of_a_value_that_is_in_it(self):
        self.check("set", (5,), "remove", (5,), ((), "yes"))
        self.check("set", (2, 5, 10), "remove", (2,), ((5, 10), "yes"))
        self.check("set", (2, 5, 10), "remove", (5,), ((2, 10), "yes"))
        self.check("set", (2, 5, 10), "remove", (10,), ((2, 5), "yes"))

    def test_remove_of_a_value_that_is_not_in_it(self):
        self.check("set", (), "remove", (5,), ((), "no"))
        self.check("set", (2, 7), "remove", (5,), ((2, 7), "no"))

    def test_has(self):
        self.check("set", (2, 7), "has", (7,), ((2, 7), "yes"))
        self.check("set", (2, 7), "has", (5,), ((2, 7), "no"))
        self.check("set", (), "has", (0,), ((), "no"))


class QueueTest(StepCase):
    def test_put(self):
        self.check("queue", (), "put", (0,), ((0,), "ok"))
        self.check("queue", (7, 2), "put", (5,), ((7, 2, 5), "ok"))
        self.check("queue", (5, 2), "put", (5,), ((5, 2, 5), "ok"))

    def test_take_of_several_values(self):
        self.check("queue", (7, 2, 5), "take", (), ((2, 5), 7))
        self.check("queue", (4, 4, 1), "take", (), ((4, 1), 4))

    def test_take_of_one_value(self):
        self.check("queue", (0,), "take", (), ((), 0))

    def test_take_of_the_empty_queue(self):
        self.check("queue", (), "take", (), ((), "empty"))


class ExampleTest(unittest.TestCase):
    def test_the_example_of_the_interface(self):
        found = (
            step("register", 3, "swap", (3, 5)),
            step("queue", (), "take", ()),
            step("set", (2, 7), "insert", (5,)),
        )
        self.assertEqual(found, ((5, "yes"), ((), "empty"), ((2, 5, 7), "yes")))


class PossibleTest(unittest.TestCase):
    def test_every_operation_is_asked(self):
        asked = [(kind, operation) for kind, operation, _, _ in POSSIBLE]
        told = [(kind, operation) for kind, names in OPERATIONS.items() for operation in names]
        self.assertEqual(asked, told)

    def test_strings_of_the_table(self):
        for kind, operation, words, _ in POSSIBLE:
            for word in ["ok", "yes", "no", "empty"]:
                with self.subTest(operation=operation, word=word):
                    self.assertIs(is_possible(kind, operation, word), word in words)

    def test_other_strings(self):
        for kind, operation, _, _ in POSSIBLE:
            for word in ["", "o", "k", "OK", "maybe", "ok ", "5", "-1", operation]:
                with self.subTest(operation=operation, word=word):
                    self.assertIs(is_possible(kind, operation, word), False)

    def test_integers_within_the_limits(self):
        for kind, operation, _, integers in POSSIBLE:
            for number in [0, 99, 100, 9999]:
                with self.subTest(operation=operation, number=number):
                    self.assertIs(is_possible(kind, operation, number), integers)

    def test_integers_beyond_the_limits(self):
        for kind, operation, _, _ in POSSIBLE:
            for number in [-9999, -1, 10000, 99999]:
                with self.subTest(operation=operation, number=number):
                    self.assertIs(is_possible(kind, operation, number), False)


if __name__ == "__main__":
    unittest.main()
