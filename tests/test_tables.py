"""Tests of ordershown.tables: the told order, the told table, and closed tables."""

import copy
import unittest

import reference
from ordershown.historytext import read_history
from ordershown.orders import is_order
from ordershown.tables import find, fits, is_closed, told_table

MODELS = ("real", "client")

BOTH = read_history("object x register\ncall a x write 5\ncall b x read\nreturn b 5\n")
CLIENT_ONLY = read_history("object x register\ncall b x read\nreturn b 5\ncall a x write 5\n")
NEITHER = read_history("object x register\ncall a x write 5\nreturn a ok\ncall a x read\nreturn a 0\n")
EMPTY = read_history("object q queue\nobject x register\n")
PENDING = read_history("object q queue\ncall a q put 1\ncall b q put 2\n")

QUEUE = read_history("""object q queue
object x counter
call a q put 1
call b q put 2
call c q take
call d x add 3
return a ok
return b ok
return c 3
""")

QUEUE_TABLE = (
    ((), ((), 0)),
    ((0,), ((1,), 0)),
    ((0, 1), ((1, 2), 0)),
    ((0, 1), ((2, 1), 0)),
    ((0, 1, 3), ((1, 2), 3)),
    ((0, 1, 3), ((2, 1), 3)),
    ((0, 3), ((1,), 3)),
    ((1,), ((2,), 0)),
    ((1, 3), ((2,), 3)),
    ((3,), ((), 3)),
)

WRITES_AND_READ = read_history("""object x register
call c x write 1
call a x write 2
call b x read
return b 1
""")

TWO_WRITES_NEEDED = read_history("""object x register
call c x write 1
call a x swap 1 2
call b x read
return b 2
""")

WRITES_IN_TURN = read_history("""object x register
call a x write 1
return a ok
call b x write 2
return b ok
call a x read
return a 1
""")

PUTS_AND_TAKES = read_history("""object q queue
call a q put 1
call b q put 2
call c q take
return c 2
return a ok
return b ok
call a q take
return a 1
""")

# (history, model, the told order)
TOLD_ORDERS = [
    (BOTH, "real", (0, 1)),
    (BOTH, "client", (0, 1)),
    (CLIENT_ONLY, "client", (1, 0)),
    (EMPTY, "real", ()),
    (EMPTY, "client", ()),
    (PENDING, "real", ()),
    (PENDING, "client", ()),
    # Both reads fit at once: the least number comes first.
    (read_history("object x register\ncall a x read\ncall b x read\nreturn b 0\nreturn a 0\n"), "real", (0, 1)),
    # (1,) is an order; (0, 1) comes ahead of it, and none of its beginnings is an order.
    (read_history("object x counter\ncall a x get\ncall b x get\nreturn b 0\n"), "real", (0, 1)),
    # What comes behind the last complete operation is left out.
    (read_history("object x counter\ncall b x get\nreturn b 0\ncall a x get\n"), "client", (0,)),
    # The write is pending, but the read needs it.
    (WRITES_AND_READ, "real", (0, 2)),
    (TWO_WRITES_NEEDED, "real", (0, 1, 2)),
    # Real time binds the writes of two clients, and the model "client" does not.
    (WRITES_IN_TURN, "client", (0, 2, 1)),
    (PUTS_AND_TAKES, "real", (1, 0, 2, 3)),
]

SMALL = [
    ([("x", "register")], {"many": 6}),
    ([("x", "counter")], {"many": 5}),
    ([("x", "set")], {"many": 5}),
    ([("x", "queue")], {"many": 5}),
    ([("x", "queue")], {"many": 4, "clients": "abc"}),
    ([("x", "register"), ("y", "set")], {"many": 4, "calls": 2}),
]


class FindTest(unittest.TestCase):
    def test_told_orders(self):
        for made, model, expected in TOLD_ORDERS:
            with self.subTest(events=made[1], model=model):
                self.assertEqual(find(made, model), ("order", expected))
                self.assertIs(is_order(made, model, expected), True)

    def test_told_tables(self):
        self.assertEqual(find(CLIENT_ONLY, "real"), ("table", (((), (0,)),)))
        for model in MODELS:
            self.assertEqual(find(NEITHER, model), ("table", (((), (0,)), ((0,), (5,)))))
            self.assertEqual(find(QUEUE, model), ("table", QUEUE_TABLE))

    def test_the_examples_of_the_interface(self):
        found = find(BOTH, "real"), find(CLIENT_ONLY, "real"), find(CLIENT_ONLY, "client")
        self.assertEqual(found, (("order", (0, 1)), ("table", (((), (0,)),)), ("order", (1, 0))))

    def test_ten_operations_at_once(self):
        made = read_history(
            "object x counter\n" + "".join([f"call c{n} x add 1\n" for n in range(9)]) + "call g x get\n"
            + "".join([f"return c{n} ok\n" for n in range(9)]) + "return g 4\n"
        )
        self.assertEqual(find(made, "real"), ("order", (0, 1, 2, 3, 9, 4, 5, 6, 7, 8)))

    def test_all_small_histories(self):
        for objects, sizes in SMALL:
            for made in reference.small_histories(objects, **sizes):
                for model in MODELS:
                    expected = ("order", reference.told_order(made, model))
                    if expected[1] is None:
                        expected = ("table", reference.told_table(made, model))
                    self.assertEqual(find(made, model), expected, (made, model))


class FitsTest(unittest.TestCase):
    def test_both_one_and_none(self):
        for made, expected in [(BOTH, (True, True)), (CLIENT_ONLY, (False, True)), (NEITHER, (False, False))]:
            with self.subTest(events=made[1]):
                self.assertIs(fits(made, "real"), expected[0])
                self.assertIs(fits(made, "client"), expected[1])

    def test_the_empty_history(self):
        for model in MODELS:
            self.assertIs(fits(EMPTY, model), True)
            self.assertIs(fits(PENDING, model), True)

    def test_what_fits_real_fits_client(self):
        for made in reference.small_histories([("x", "register")], many=5):
            if fits(made, "real"):
                self.assertIs(fits(made, "client"), True, made)


class ToldTableTest(unittest.TestCase):
    def test_where_there_is_no_order(self):
        self.assertEqual(told_table(CLIENT_ONLY, "real"), (((), (0,)),))
        for model in MODELS:
            self.assertEqual(told_table(QUEUE, model), QUEUE_TABLE)

    def test_where_there_is_an_order(self):
        self.assertEqual(told_table(BOTH, "real"), (((), (0,)), ((0,), (5,)), ((0, 1), (5,))))
        self.assertEqual(told_table(EMPTY, "real"), (((), ((), 0)),))

    def test_it_goes_on_behind_whole_positions(self):
        expected = (((), ((),)), ((0,), ((1,),)), ((0, 1), ((1, 2),)), ((0, 1), ((2, 1),)), ((1,), ((2,),)))
        self.assertEqual(told_table(PENDING, "real"), expected)

    def test_each_model(self):
        made = read_history("object x register\ncall a x write 1\nreturn a ok\ncall b x write 2\n")
        self.assertEqual(told_table(made, "real"), (((), (0,)), ((0,), (1,)), ((0, 1), (2,))))
        self.assertEqual(
            told_table(made, "client"), (((), (0,)), ((0,), (1,)), ((0, 1), (1,)), ((0, 1), (2,)), ((1,), (2,)))
        )

    def test_all_small_histories(self):
        for objects, sizes in SMALL:
            for made in reference.small_histories(objects, **sizes):
                for model in MODELS:
                    found = told_table(made, model)
                    self.assertEqual(found, reference.told_table(made, model), (made, model))
                    self.assertEqual(found, tuple(sorted(found)))
                    self.assertIn(((), reference.run(made, ())[1]), found)


class ClosedTest(unittest.TestCase):
    def check(self, some_history, model, table, expected):
        with self.subTest(model=model, table=table):
            self.assertIs(is_closed(some_history, model, table), expected)

    def test_told_tables(self):
        for model in MODELS:
            self.check(QUEUE, model, QUEUE_TABLE, True)
            self.check(NEITHER, model, (((), (0,)), ((0,), (5,))), True)
        self.check(CLIENT_ONLY, "real", (((), (0,)),), True)
        self.check(CLIENT_ONLY, "client", (((), (0,)),), False)

    def test_where_there_is_an_order(self):
        for model in MODELS:
            for made in (BOTH, EMPTY, PENDING):
                table = told_table(made, model)
                self.check(made, model, table, False)
                self.check(made, model, table[:-1], False)

    def test_in_any_order_and_twice(self):
        self.check(QUEUE, "real", tuple(reversed(QUEUE_TABLE)), True)
        self.check(QUEUE, "real", QUEUE_TABLE + QUEUE_TABLE[3:5], True)

    def test_a_position_left_out(self):
        for at in range(len(QUEUE_TABLE)):
            self.check(QUEUE, "real", QUEUE_TABLE[:at] + QUEUE_TABLE[at + 1:], False)

    def test_the_empty_table(self):
        for made in (BOTH, NEITHER, EMPTY):
            self.check(made, "real", (), False)

    def test_a_position_put_in(self):
        # It leads to no other position: the take returned 3.
        self.check(QUEUE, "real", QUEUE_TABLE + (((0, 1, 3), ((1, 2), 50)),), True)
        # It leads to a position that is missing, until this is put in too.
        self.check(QUEUE, "real", QUEUE_TABLE + (((0, 1), ((1, 2), 50)),), False)
        self.check(QUEUE, "real", QUEUE_TABLE + (((0, 1), ((1, 2), 50)), ((0, 1, 3), ((1, 2), 53))), True)

    def test_a_whole_position_put_in(self):
        self.check(QUEUE, "real", QUEUE_TABLE + (((0, 1, 2, 3), ((1, 2), 3)),), False)
        self.check(QUEUE, "real", QUEUE_TABLE + (((0, 1, 2), ((), 0)), ((0, 1, 2, 3), ((), 3))), False)

    def test_a_position_changed(self):
        for at, (placed, states) in enumerate(QUEUE_TABLE):
            for other in [(placed, (states[0], 77)), (placed, ((9,), states[1])), ((0, 1, 2, 3), states)]:
                self.check(QUEUE, "real", QUEUE_TABLE[:at] + (other,) + QUEUE_TABLE[at + 1:], False)

    def test_what_is_no_position(self):
        for placed in [(3, 1, 0), (0, 1, 1, 3), (0, 1, 3, 4), (-1, 0, 1, 3), (-1,), (10,)]:
            self.check(QUEUE, "real", QUEUE_TABLE + ((placed, ((1, 2), 3)),), False)

    def test_a_state_from_which_the_result_comes(self):
        table = (((), (0,)), ((0,), (5,)), ((0,), (0,)))
        self.check(NEITHER, "real", table, False)

    def test_a_placed_operation_without_what_is_ahead_of_it(self):
        # Behind (1,) the write may still be done, and then the position is whole.
        self.check(NEITHER, "real", (((), (0,)), ((0,), (5,)), ((1,), (0,))), False)

    def test_all_small_histories(self):
        for made in reference.small_histories([("x", "queue")], many=5):
            for model in MODELS:
                table = told_table(made, model)
                self.assertIs(is_closed(made, model, table), not fits(made, model), (made, model))
                for at in range(len(table)):
                    self.assertIs(is_closed(made, model, table[:at] + table[at + 1:]), False, (made, model))


class NothingIsModifiedTest(unittest.TestCase):
    def test_the_history(self):
        before = copy.deepcopy(QUEUE)
        find(QUEUE, "real")
        fits(QUEUE, "client")
        told_table(QUEUE, "real")
        is_closed(QUEUE, "real", QUEUE_TABLE)
        self.assertEqual(QUEUE, before)

    def test_kinds_of_values(self):
        self.assertIs(type(find(BOTH, "real")), tuple)
        self.assertIs(type(find(BOTH, "real")[1]), tuple)
        self.assertIs(type(find(NEITHER, "real")[1]), tuple)
        self.assertIs(type(told_table(BOTH, "real")), tuple)

    def test_defined_in_this_module(self):
        for function in [find, fits, told_table, is_closed]:
            with self.subTest(function=function.__name__):
                self.assertEqual(function.__module__, "ordershown.tables")


if __name__ == "__main__":
    unittest.main()
