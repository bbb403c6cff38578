"""Tests of ordershown.endings: serial and finished histories."""

import copy
import unittest

import reference
from ordershown.endings import finished, is_serial, serial
from ordershown.histories import history, operations
from ordershown.historytext import format_history, read_history
from ordershown.orders import is_order
from ordershown.tables import find, fits

MODELS = ("real", "client")

MIXED = read_history("""object q queue
object r register
call a q put 4
call b q put 7
call c q take
call d r swap 0 9
call e r read
return c 7
return d yes
return a ok
""")

# (order of MIXED, the text of its serial history behind the objects)
SERIAL = [
    ((1, 2, 3, 0), """call b q put 7
return b ok
call c q take
return c 7
call d r swap 0 9
return d yes
call a q put 4
return a ok
"""),
    ((4, 3, 1, 2, 0), """call e r read
return e 0
call d r swap 0 9
return d yes
call b q put 7
return b ok
call c q take
return c 7
call a q put 4
return a ok
"""),
    ((3, 1, 2, 4, 0), """call d r swap 0 9
return d yes
call b q put 7
return b ok
call c q take
return c 7
call e r read
return e 9
call a q put 4
return a ok
"""),
]

IS_SERIAL = [
    ("", True),
    ("call a x read\n", True),
    ("call a x read\nreturn a 0\n", True),
    ("call a x read\nreturn a 0\ncall b x read\n", True),
    ("call a x read\nreturn a 5\ncall b x read\nreturn b 6\n", True),
    ("call a x read\nreturn a 5\ncall a x read\nreturn a 6\ncall c x read\n", True),
    ("call a x read\ncall b x read\n", False),
    ("call a x read\ncall b x read\nreturn b 0\n", False),
    ("call a x read\ncall b x read\nreturn a 0\nreturn b 0\n", False),
    ("call a x read\ncall b x read\nreturn b 0\nreturn a 0\n", False),
    ("call a x read\nreturn a 0\ncall b x read\ncall c x read\n", False),
    ("call a x read\nreturn a 0\ncall a x read\ncall c x read\nreturn a 0\nreturn c 0\n", False),
]

# (text, model, the text of the finished history, or None)
FINISHED = [
    # Nothing is pending.
    ("object x register\ncall a x write 5\nreturn a ok\n", "real",
     "object x register\ncall a x write 5\nreturn a ok\n"),
    ("object x register\n", "client", "object x register\n"),
    # The told order has the write, and not the second read.
    ("object x register\ncall a x write 5\ncall c x read\ncall b x read\nreturn b 5\n", "real",
     "object x register\ncall a x write 5\ncall c x read\ncall b x read\nreturn b 5\nreturn a ok\nreturn c 5\n"),
    ("object x register\ncall b x read\ncall a x write 5\ncall c x read\nreturn b 5\n", "real",
     "object x register\ncall b x read\ncall a x write 5\nreturn b 5\nreturn a ok\n"),
    # The told order is empty.
    ("object x register\ncall a x write 5\ncall b x read\n", "real", "object x register\n"),
    # The returns stand in the order of the numbers, with the results of the told order.
    ("object c counter\ncall b c add 7\ncall a c get\ncall d c add 1\ncall e c get\nreturn e 8\n", "client",
     "object c counter\ncall b c add 7\ncall a c get\ncall d c add 1\ncall e c get\nreturn e 8\nreturn b ok\n"
     "return a 7\nreturn d ok\n"),
    ("object x register\ncall c x write 3\ncall b x swap 4 6\ncall a x write 4\ncall d x read\nreturn d 6\n", "real",
     "object x register\ncall c x write 3\ncall b x swap 4 6\ncall a x write 4\ncall d x read\nreturn d 6\n"
     "return c ok\nreturn b yes\nreturn a ok\n"),
    # There is an order by one model alone.
    ("object x register\ncall b x read\nreturn b 5\ncall a x write 5\n", "client",
     "object x register\ncall b x read\nreturn b 5\ncall a x write 5\nreturn a ok\n"),
    ("object x register\ncall b x read\nreturn b 5\ncall a x write 5\n", "real", None),
    ("object x register\ncall b x read\nreturn b 5\ncall c x read\n", "client", None),
]

SMALL = [
    ([("x", "register")], {"many": 5}),
    ([("x", "queue")], {"many": 4, "clients": "abc"}),
    ([("x", "set"), ("y", "counter")], {"many": 4, "calls": 2}),
]


class SerialTest(unittest.TestCase):
    def test_orders_with_pending_operations(self):
        for order, text in SERIAL:
            with self.subTest(order=order):
                self.assertTrue(is_order(MIXED, "real", order))
                found = serial(MIXED, order)
                self.assertEqual(format_history(found), "object q queue\nobject r register\n" + text)

    def test_the_empty_order(self):
        made = read_history("object x register\ncall a x read\n")
        self.assertEqual(serial(made, ()), ((("x", "register"),), ()))

    def test_an_order_by_client(self):
        made = read_history("object x register\ncall b x read\nreturn b 5\ncall a x write 5\n")
        expected = read_history("object x register\ncall a x write 5\nreturn a ok\ncall b x read\nreturn b 5\n")
        self.assertEqual(serial(made, (1, 0)), expected)

    def test_orders_of_small_histories(self):
        for objects, sizes in SMALL:
            for made in reference.small_histories(objects, **sizes):
                for model in MODELS:
                    for order in reference.orders(made, model):
                        self.check_serial(made, order)

    def check_serial(self, made, order):
        found = serial(made, order)
        self.assertEqual(history(list(found[0]), list(found[1])), found)
        self.assertIs(is_serial(found), True, (made, order))
        told = [operation[:4] for operation in operations(made)]
        self.assertEqual([operation[:4] for operation in operations(found)], [told[number] for number in order])
        for model in MODELS:
            self.assertEqual(find(found, model), ("order", tuple(range(len(order)))))


class IsSerialTest(unittest.TestCase):
    def test_each(self):
        for text, expected in IS_SERIAL:
            with self.subTest(text=text):
                self.assertIs(is_serial(read_history("object x register\n" + text)), expected)

    def test_it_need_not_fit(self):
        made = read_history("object x register\ncall a x read\nreturn a 5\n")
        self.assertIs(fits(made, "client"), False)
        self.assertIs(is_serial(made), True)

    def test_different_objects(self):
        made = read_history(
            "object x register\nobject y register\ncall a x read\ncall b y read\nreturn a 0\nreturn b 0\n"
        )
        self.assertIs(is_serial(made), False)


class FinishedTest(unittest.TestCase):
    def test_each(self):
        for text, model, expected in FINISHED:
            with self.subTest(text=text, model=model):
                found = finished(read_history(text), model)
                self.assertEqual(found, None if expected is None else read_history(expected))

    def test_the_model_counts(self):
        made = read_history(
            "object x register\ncall b x read\nreturn b 0\ncall b x read\nreturn b 5\ncall a x write 5\n"
        )
        self.assertIsNone(finished(made, "real"))
        self.assertEqual(finished(made, "client"), (made[0], (*made[1], ("return", "a", "ok"))))

    def test_small_histories(self):
        for objects, sizes in SMALL:
            for made in reference.small_histories(objects, **sizes):
                for model in MODELS:
                    self.check_finished(made, model)

    def check_finished(self, made, model):
        found = finished(made, model)
        order = reference.told_order(made, model)
        if order is None:
            self.assertIsNone(found)
            return
        self.assertEqual(history(list(found[0]), list(found[1])), found)
        self.assertTrue(fits(found, model))
        self.assertNotIn(None, [told[4] for told in operations(found)])
        got = dict(zip(order, reference.run(made, order)[0]))
        told = operations(made)
        left_out = [told[number][5] for number in range(len(told)) if number not in got]
        events = [event for index, event in enumerate(made[1]) if index not in left_out]
        ends = [("return", told[number][0], got[number]) for number in sorted(got) if told[number][6] is None]
        self.assertEqual(found, (made[0], tuple(events + ends)))


class NothingIsModifiedTest(unittest.TestCase):
    def test_the_history(self):
        before = copy.deepcopy(MIXED)
        serial(MIXED, (1, 2, 3, 0))
        is_serial(MIXED)
        finished(MIXED, "real")
        self.assertEqual(MIXED, before)

    def test_defined_in_this_module(self):
        for function in [serial, is_serial, finished]:
            with self.subTest(function=function.__name__):
                self.assertEqual(function.__module__, "ordershown.endings")


if __name__ == "__main__":
    unittest.main()
