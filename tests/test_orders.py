"""Tests of ordershown.orders: what is ahead, results of rows, and orders."""

import copy
import itertools
import unittest

import reference
from ordershown.historytext import read_history
from ordershown.orders import is_ahead, is_order, results

# Operation 0 overlaps 1, both returned before 2 is called, 3 is pending.
FOUR = read_history("""object x register
call a x write 5
call b x read
return a ok
return b 5
call a x write 6
call b x read
return a ok
""")

AHEAD_IN_FOUR = {
    "real": [(0, 2), (0, 3), (1, 2), (1, 3)],
    "client": [(0, 2), (1, 3)],
}

# All of one client, so the second one is behind the first one by both models.
ONE_CLIENT = read_history("object x counter\ncall a x add 1\nreturn a ok\ncall a x get\n")

QUEUE = read_history("""object q queue
object r register
call a q put 4
call b q put 7
call c q take
call d r swap 0 9
call e r read
return c 7
return d yes
return a ok
""")

EMPTY = read_history("object x register\n")
PENDING = read_history("object x register\ncall a x write 5\ncall b x read\ncall c x read\n")


class AheadTest(unittest.TestCase):
    def test_each_pair(self):
        for model, pairs in AHEAD_IN_FOUR.items():
            for number, other in itertools.product(range(4), repeat=2):
                with self.subTest(model=model, number=number, other=other):
                    self.assertIs(is_ahead(FOUR, model, number, other), (number, other) in pairs)

    def test_of_one_client(self):
        for model in ("real", "client"):
            with self.subTest(model=model):
                self.assertIs(is_ahead(ONE_CLIENT, model, 0, 1), True)
                self.assertIs(is_ahead(ONE_CLIENT, model, 1, 0), False)
                self.assertIs(is_ahead(ONE_CLIENT, model, 0, 0), False)

    def test_pending_operations_are_ahead_of_none(self):
        for model in ("real", "client"):
            for number, other in itertools.product(range(3), repeat=2):
                with self.subTest(model=model, number=number, other=other):
                    self.assertIs(is_ahead(PENDING, model, number, other), False)

    def test_operations_of_different_objects(self):
        made = read_history(
            "object x register\nobject y set\ncall a x read\nreturn a 0\ncall b y has 1\ncall a y has 2\n"
        )
        self.assertIs(is_ahead(made, "real", 0, 1), True)
        self.assertIs(is_ahead(made, "client", 0, 1), False)
        self.assertIs(is_ahead(made, "client", 0, 2), True)


class ResultsTest(unittest.TestCase):
    def check(self, some_history, row, expected):
        found = results(some_history, row)
        self.assertIs(type(found), list)
        self.assertEqual(found, expected)

    def test_rows_in_any_order(self):
        self.check(FOUR, (0, 1, 2, 3), ["ok", 5, "ok", 6])
        self.check(FOUR, (3, 2, 1, 0), [0, "ok", 6, "ok"])
        self.check(FOUR, (1, 3), [0, 0])
        self.check(FOUR, (2, 0, 3), ["ok", "ok", 5])
        self.check(FOUR, (), [])

    def test_several_objects(self):
        self.check(QUEUE, (0, 1, 2, 3, 4), ["ok", "ok", 4, "yes", 9])
        self.check(QUEUE, (4, 1, 3, 2, 0), [0, "ok", "yes", 7, "ok"])
        self.check(QUEUE, (2, 0), ["empty", "ok"])

    def test_two_objects_of_one_kind(self):
        made = read_history("object x counter\nobject y counter\ncall a x add 3\ncall b y get\ncall c x get\n")
        self.check(made, (0, 1, 2), ["ok", 0, 3])

    def test_the_returned_list_is_new(self):
        found = results(FOUR, (0, 1))
        found.append("more")
        self.check(FOUR, (0, 1), ["ok", 5])


class OrderTest(unittest.TestCase):
    def check(self, some_history, model, row, expected):
        with self.subTest(model=model, row=row):
            self.assertIs(is_order(some_history, model, row), expected)

    def test_orders(self):
        for model in ("real", "client"):
            self.check(FOUR, model, (0, 1, 2), True)
        self.check(FOUR, "client", (0, 2, 1), False)
        self.check(QUEUE, "real", (1, 2, 3, 0), True)
        self.check(QUEUE, "client", (3, 1, 0, 2), True)

    def test_pending_operations_in_it(self):
        self.check(FOUR, "real", (0, 1, 2, 3), True)
        self.check(FOUR, "real", (0, 1, 3, 2), True)
        self.check(FOUR, "real", (0, 3, 1, 2), False)
        self.check(FOUR, "client", (0, 3, 1, 2), False)
        self.check(QUEUE, "real", (4, 1, 3, 0, 2), True)
        self.check(QUEUE, "real", (1, 2, 3, 0, 4), True)
        self.check(PENDING, "real", (2, 0, 1), True)

    def test_not_legal(self):
        self.check(FOUR, "real", (1, 0, 2), False)
        self.check(QUEUE, "real", (0, 1, 2, 3), False)
        self.check(QUEUE, "real", (3, 0, 2), False)

    def test_without_a_complete_operation(self):
        self.check(FOUR, "real", (0, 1), False)
        self.check(FOUR, "client", (0, 1, 3), False)
        self.check(QUEUE, "real", (1, 2, 3), False)
        self.check(FOUR, "real", (), False)

    def test_what_is_ahead_is_left_out_or_behind(self):
        made = read_history("object x counter\ncall a x get\nreturn a 0\ncall b x get\nreturn b 0\n")
        self.check(made, "real", (0, 1), True)
        self.check(made, "real", (1, 0), False)
        self.check(made, "client", (1, 0), True)
        self.check(made, "real", (1,), False)
        self.check(ONE_CLIENT, "real", (1,), False)
        self.check(ONE_CLIENT, "client", (1, 0), False)
        self.check(ONE_CLIENT, "client", (0, 1), True)

    def test_a_number_twice(self):
        self.check(FOUR, "real", (0, 1, 2, 2), False)
        self.check(FOUR, "real", (0, 1, 2, 3, 3), False)
        self.check(FOUR, "client", (0, 0, 1, 2), False)
        self.check(PENDING, "real", (1, 1), False)

    def test_a_number_below_0_or_too_great(self):
        self.check(FOUR, "real", (0, 1, 2, -1), False)
        self.check(FOUR, "real", (0, 1, -2), False)
        self.check(FOUR, "real", (0, 1, 2, 4), False)
        self.check(FOUR, "client", (100, 0, 1, 2), False)
        self.check(EMPTY, "real", (0,), False)
        self.check(EMPTY, "real", (-1,), False)

    def test_the_empty_row(self):
        for model in ("real", "client"):
            self.check(EMPTY, model, (), True)
            self.check(PENDING, model, (), True)
            self.check(ONE_CLIENT, model, (), False)

    def test_result_0_counts(self):
        made = read_history("object x counter\ncall b x add 1\ncall a x get\nreturn a 0\nreturn b ok\n")
        self.check(made, "real", (1, 0), True)
        self.check(made, "real", (0, 1), False)

    def test_all_rows_of_small_histories(self):
        for made in reference.small_histories([("x", "register")], calls=3, many=4):
            numbers = range(-1, 4)
            rows = [row for many in range(4) for row in itertools.permutations(numbers, many)]
            for model in ("real", "client"):
                expected = set(reference.orders(made, model))
                self.assertEqual({row for row in rows if is_order(made, model, row)}, expected, (made, model))


class NothingIsModifiedTest(unittest.TestCase):
    def test_the_history(self):
        before = copy.deepcopy(FOUR)
        is_ahead(FOUR, "real", 0, 1)
        results(FOUR, (1, 0))
        is_order(FOUR, "client", (0, 1, 2))
        self.assertEqual(FOUR, before)

    def test_defined_in_this_module(self):
        for function in [is_ahead, results, is_order]:
            with self.subTest(function=function.__name__):
                self.assertEqual(function.__module__, "ordershown.orders")


if __name__ == "__main__":
    unittest.main()
