"""Tests of ordershown.parts: woven orders, coherent histories, the first break, and the core."""

import copy
import unittest

import reference
from ordershown.histories import operations, part
from ordershown.historytext import read_history
from ordershown.orders import is_order
from ordershown.parts import core, first_break, is_coherent, woven
from ordershown.tables import find, fits

MODELS = ("real", "client")

ONE_OBJECT = read_history("""object x register
call a x write 1
call b x write 2
call c x read
return c 1
return a ok
return b ok
""")

TWO_OBJECTS = read_history("""object q queue
object r register
call a r write 5
call b q put 1
return b ok
call b r read
call c q take
return a ok
return b 0
return c 1
call c r read
""")

THREE_OBJECTS = read_history("""object c counter
object q queue
object s set
call a s insert 1
call b q take
call d c get
call e c add 2
call f q put 7
return d 2
return b 7
return a yes
call a q take
call d s has 1
return d yes
return a empty
""")

# All operations overlap, so of each object's next one the least number comes.
OVERLAPPING = read_history("object x register\nobject y register\nobject z register\n" + "".join(
    [f"call a{number} {name} write {number}\n" for number, name in enumerate("zyxzyx")]
))

# (history, the orders of its parts, the woven order)
WOVEN = [
    (ONE_OBJECT, [(0, 2, 1)], (0, 2, 1)),
    (TWO_OBJECTS, [(0, 1), (1, 0)], (1, 2, 0, 3)),
    (TWO_OBJECTS, [(0, 1), (1, 0, 2)], (1, 2, 0, 3, 4)),
    (THREE_OBJECTS, [(1, 0), (1, 0, 2), (0, 1)], (0, 3, 2, 4, 1, 5, 6)),
    (OVERLAPPING, [(), (), ()], ()),
    (OVERLAPPING, [(0, 1), (0, 1), (0, 1)], (0, 1, 2, 3, 4, 5)),
    (OVERLAPPING, [(1, 0), (1, 0), (1, 0)], (3, 0, 4, 1, 5, 2)),
    (OVERLAPPING, [(1, 0), (0,), (1,)], (1, 3, 5, 2)),
    (OVERLAPPING, [(), (1, 0), (0,)], (0, 4, 1)),
    (read_history("object x register\nobject y set\n"), [(), ()], ()),
]

# Each part fits "client", the whole does not.
COHERENT_ONLY = read_history("""object x register
object y register
call a x write 1
return a ok
call a y read
return a 0
call b y write 1
return b ok
call b x read
return b 0
""")

# (history, the first break)
BREAKS = [
    ("object x register\n", None),
    ("object x register\ncall a x read\n", None),
    ("object x register\ncall a x read\nreturn a 0\n", None),
    ("object x register\ncall a x read\nreturn a 5\n", 2),
    ("object x register\ncall a x read\nreturn a 5\ncall b x write 5\nreturn b ok\n", 2),
    ("object x register\ncall b x write 5\ncall a x read\nreturn a 6\nreturn b ok\n", 3),
    ("object x register\ncall b x write 5\ncall a x read\nreturn b ok\nreturn a 6\n", 4),
    ("object x register\ncall a x write 5\nreturn a ok\ncall a x read\nreturn a 0\ncall a x read\n", 4),
    ("object x counter\nobject y counter\ncall a x get\ncall b y get\nreturn a 0\ncall c x get\nreturn b 1\n", 5),
]

# (history, model, the core)
CORES = [
    ("object x register\ncall a x read\nreturn a 5\n", "real", [0]),
    ("object x register\ncall a x read\nreturn a 5\n", "client", [0]),
    ("object x register\ncall b x read\nreturn b 5\ncall a x write 5\n", "real", [0]),
    ("object x register\ncall a x write 5\nreturn a ok\ncall a x read\nreturn a 0\n", "real", [0, 1]),
    ("object x register\ncall a x write 5\nreturn a ok\ncall a x read\nreturn a 0\n", "client", [0, 1]),
    # Either read shows it: the first one is left out, the last one stays.
    ("object x register\ncall a x read\nreturn a 5\ncall a x read\nreturn a 6\n", "real", [1]),
    # The write 7 explains the last read, so it may be left out.
    ("object x register\ncall a x write 7\nreturn a ok\ncall a x write 8\nreturn a ok\ncall b x read\nreturn b 7\n"
     "call c x read\n", "real", [2]),
    # The two puts and the two takes in the wrong order.
    ("object q queue\ncall a q put 1\nreturn a ok\ncall a q put 2\nreturn a ok\ncall b q take\nreturn b 2\n"
     "call b q take\nreturn b 1\n", "real", [3]),
    ("object q queue\ncall a q put 1\nreturn a ok\ncall b q take\nreturn b empty\ncall c q take\nreturn c 1\n",
     "real", [2]),
    ("object s set\ncall a s insert 1\nreturn a yes\ncall b s insert 1\nreturn b yes\n", "client", [0, 1]),
    ("object s set\ncall a s insert 1\nreturn a yes\ncall b s insert 1\nreturn b yes\ncall c s insert 1\n"
     "return c yes\n", "real", [1, 2]),
]

SMALL = [
    ([("x", "register")], {"many": 5}),
    ([("x", "queue")], {"many": 4, "clients": "abc"}),
    ([("x", "set"), ("y", "counter")], {"many": 4, "calls": 2}),
]


class WovenTest(unittest.TestCase):
    def test_orders_of_parts(self):
        for made, orders, expected in WOVEN:
            with self.subTest(orders=orders):
                found = woven(made, orders)
                self.assertIs(type(found), tuple)
                self.assertEqual(found, expected)

    def test_the_woven_order_is_an_order(self):
        for made, orders, _ in WOVEN:
            with self.subTest(orders=orders):
                for (name, _), order in zip(made[0], orders):
                    self.assertIs(is_order(part(made, name), "real", order), True)
                self.assertIs(is_order(made, "real", woven(made, orders)), True)

    def test_told_orders_of_the_parts(self):
        for made in (ONE_OBJECT, TWO_OBJECTS, THREE_OBJECTS, OVERLAPPING):
            orders = [find(part(made, name), "real")[1] for name, _ in made[0]]
            self.assertIs(is_order(made, "real", woven(made, orders)), True)

    def test_all_orders_of_the_parts_of_small_histories(self):
        tested = 0
        for made in reference.small_histories([("x", "register"), ("y", "set")], many=4, calls=3, clients="abc"):
            for one in reference.orders(part(made, "x"), "real"):
                for two in reference.orders(part(made, "y"), "real"):
                    self.check_by_the_rule(made, [one, two])
                    tested += 1
        self.assertGreater(tested, 1000)

    def check_by_the_rule(self, made, orders):
        found = woven(made, orders)
        self.assertTrue(reference.is_legal_row(made, "real", found))
        numbers = [
            [number for number, told in enumerate(operations(made)) if told[1] == name] for name, _ in made[0]
        ]
        rows = [[own[number] for number in order] for own, order in zip(numbers, orders)]
        self.assertEqual(sorted(found), sorted(rows[0] + rows[1]))
        for at, number in enumerate(found):
            may_come = [
                other for row in rows for place, other in enumerate(row)
                if other not in found[:at] and all(earlier in found[:at] for earlier in row[:place])
                and all(
                    earlier in found[:at] for earlier in range(len(operations(made)))
                    if reference.is_ahead(made, "real", earlier, other)
                )
            ]
            self.assertEqual(number, min(may_come))

    def test_the_lists_are_not_modified(self):
        orders = [(1, 0), (1, 0), (1, 0)]
        before = copy.deepcopy(OVERLAPPING)
        woven(OVERLAPPING, orders)
        self.assertEqual((orders, OVERLAPPING), ([(1, 0), (1, 0), (1, 0)], before))


class CoherentTest(unittest.TestCase):
    def test_one_that_fits_client(self):
        made = read_history("object x register\nobject y set\ncall b x read\nreturn b 5\ncall a x write 5\n")
        self.assertIs(fits(made, "real"), False)
        self.assertIs(is_coherent(made), True)
        self.assertIs(is_coherent(TWO_OBJECTS), True)
        self.assertIs(is_coherent(read_history("object x register\n")), True)

    def test_one_whose_parts_alone_fit(self):
        self.assertIs(fits(COHERENT_ONLY, "client"), False)
        self.assertIs(is_coherent(COHERENT_ONLY), True)

    def test_one_whose_part_does_not_fit(self):
        wrong = "call a {0} write 5\nreturn a ok\ncall a {0} read\nreturn a 0\n"
        for name in ("x", "y"):
            with self.subTest(name=name):
                made = read_history("object x register\nobject y register\n" + wrong.format(name))
                self.assertIs(is_coherent(made), False)

    def test_locality_of_real(self):
        for made in reference.small_histories([("x", "set"), ("y", "counter")], many=4, calls=2):
            parts = [fits(part(made, name), "real") for name, _ in made[0]]
            self.assertIs(fits(made, "real"), all(parts), made)


class FirstBreakTest(unittest.TestCase):
    def test_each_number(self):
        for text, expected in BREAKS:
            with self.subTest(text=text):
                self.assertEqual(first_break(read_history(text)), expected)

    def test_all_small_histories(self):
        for objects, sizes in SMALL:
            for made in reference.small_histories(objects, **sizes):
                found = [
                    reference.told_order((made[0], made[1][:many]), "real") is not None
                    for many in range(len(made[1]) + 1)
                ]
                expected = found.index(False) if False in found else None
                self.assertEqual(first_break(made), expected, made)
                # No longer beginning fits.
                self.assertNotIn(True, found[expected:] if expected is not None else [], made)


class CoreTest(unittest.TestCase):
    def test_cores(self):
        for text, model, expected in CORES:
            with self.subTest(text=text, model=model):
                found = core(read_history(text), model)
                self.assertIs(type(found), list)
                self.assertEqual(found, expected)

    def test_of_two_registers(self):
        self.assertEqual(core(COHERENT_ONLY, "client"), [0, 1, 2, 3])
        self.assertEqual(core(COHERENT_ONLY, "real"), [0, 3])

    def test_none_for_a_history_that_fits(self):
        for model in MODELS:
            for made in (ONE_OBJECT, TWO_OBJECTS, THREE_OBJECTS, OVERLAPPING, read_history("object x set\n")):
                self.assertIsNone(core(made, model))

    def test_all_small_histories(self):
        for objects, sizes in SMALL:
            for made in reference.small_histories(objects, **sizes):
                for model in MODELS:
                    self.assertEqual(core(made, model), self.expected(made, model), (made, model))

    def expected(self, made, model):
        if reference.told_order(made, model) is not None:
            return None
        left = list(range(len(operations(made))))
        for number in range(len(left)):
            fewer = [other for other in left if other != number]
            if reference.told_order(self.only(made, fewer), model) is None:
                left = fewer
        return left

    def only(self, made, numbers):
        told = operations(made)
        indices = [index for number in numbers for index in told[number][5:] if index is not None]
        return made[0], tuple(event for index, event in enumerate(made[1]) if index in indices)

    def test_the_returned_list_is_new(self):
        found = core(COHERENT_ONLY, "real")
        found.clear()
        self.assertEqual(core(COHERENT_ONLY, "real"), [0, 3])


class NothingIsModifiedTest(unittest.TestCase):
    def test_the_history(self):
        before = copy.deepcopy(COHERENT_ONLY)
        is_coherent(COHERENT_ONLY)
        first_break(COHERENT_ONLY)
        core(COHERENT_ONLY, "client")
        self.assertEqual(COHERENT_ONLY, before)

    def test_defined_in_this_module(self):
        for function in [woven, is_coherent, first_break, core]:
            with self.subTest(function=function.__name__):
                self.assertEqual(function.__module__, "ordershown.parts")


if __name__ == "__main__":
    unittest.main()
