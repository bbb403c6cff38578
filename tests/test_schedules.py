"""Tests of ordershown.schedules: schedules and their texts."""

import copy
import unittest

from ordershown.errors import ScheduleError
from ordershown.schedules import format_schedule, read_schedule, transactions_of, without_aborted

# (text, the schedule that it tells)
TEXTS = [
    ("", []),
    ("r1(x)", [("read", 1, "x")]),
    ("w8(z)", [("write", 8, "z")]),
    ("c1", [("commit", 1)]),
    ("a8", [("abort", 8)]),
    ("r1(a) r1(a) w2(a) c2 a1", [
        ("read", 1, "a"), ("read", 1, "a"), ("write", 2, "a"), ("commit", 2), ("abort", 1),
    ]),
    ("r1(x) w2(x) a1 w2(y) c2", [
        ("read", 1, "x"), ("write", 2, "x"), ("abort", 1), ("write", 2, "y"), ("commit", 2),
    ]),
]

NO_OPERATIONS = [
    # Signs too few.
    "r", "r1", "r1(", "r1(x", "r1x", "r1x)", "r(x)", "w", "w1", "w1()", "c", "a", "1", "1(x)", "(x)",
    # Signs too many.
    "r1(x))", "r1((x)", "r1(xy)", "r11(x)", "r1(x)c1", "rr1(x)", "c1(x)", "a1(x)", "c11", "cc1", "a1\n", "c1\n",
    "\nc1", "r1(x)\n", "r-1(x)", "r+1(x)", "r01(x)", "c01", "\n", "r1( )", "r1(x,y)",
    # No transactions.
    "r0(x)", "r9(x)", "w0(y)", "w9(y)", "c0", "c9", "a0", "a9", "rx(x)", "r1(1)", "cx", "c-",
    # No items.
    "r1(X)", "w1(Z)", "r1(1)", "w1(_)", "r1(()", "r1())", "r1(`)", "r1({)",
    # No words of operations.
    "x1(x)", "R1(x)", "W1(x)", "C1", "A1", "read1(x)", "b1", "e1(x)", "r1[x]", "r1)x(",
]

# (text, place, what)
FAULTS = [
    # Empty words.
    (" ", 0, "not an operation"),
    (" r1(x)", 0, "not an operation"),
    ("r1(x) ", 1, "not an operation"),
    ("r1(x)  w1(x)", 1, "not an operation"),
    ("  ", 0, "not an operation"),
    # Behind an end of the same transaction.
    ("c1 r1(x)", 1, "already ended"),
    ("a1 r1(x)", 1, "already ended"),
    ("c1 w1(x)", 1, "already ended"),
    ("a1 w1(x)", 1, "already ended"),
    ("c1 c1", 1, "already ended"),
    ("c1 a1", 1, "already ended"),
    ("a1 c1", 1, "already ended"),
    ("a1 a1", 1, "already ended"),
    ("r1(x) c1 r2(x) w1(x)", 3, "already ended"),
    ("a2 r1(x) w1(x) c1 c2", 4, "already ended"),
    # The first fault, wherever others stand.
    ("c1 r1(x) nothing", 1, "already ended"),
    ("c1 nothing r1(x)", 1, "not an operation"),
    ("c1 r1(X)", 1, "not an operation"),
    ("r0(x) c1 c1", 0, "not an operation"),
]


class TextTest(unittest.TestCase):
    def test_read(self):
        for text, schedule in TEXTS:
            with self.subTest(text=text):
                self.assertEqual(read_schedule(text), schedule)

    def test_written(self):
        for text, schedule in TEXTS:
            with self.subTest(text=text):
                self.assertEqual(format_schedule(schedule), text)

    def test_every_operation_written_and_read(self):
        letters = "abcdefghijklmnopqrstuvwxyz"
        words = [("read", t, item) for t in range(1, 9) for item in letters]
        words += [("write", t, item) for t in range(1, 9) for item in letters]
        words += [("commit", t) for t in range(1, 9)] + [("abort", t) for t in range(1, 9)]
        for operation in words:
            with self.subTest(operation=operation):
                self.assertEqual(read_schedule(format_schedule([operation])), [operation])

    def test_the_example_of_the_document(self):
        schedule = read_schedule("r1(x) w2(x) a1 w2(y) c2")
        self.assertEqual(format_schedule(without_aborted(schedule)), "w2(x) w2(y) c2")

    def test_what_is_beyond_the_limits_is_written_all_the_same(self):
        self.assertEqual(format_schedule([("read", 12, "x"), ("commit", 9)]), "r12(x) c9")
        self.assertEqual(format_schedule([("read", 1, "x")] * 61), " ".join(["r1(x)"] * 61))

    def test_new_lists(self):
        read_schedule("r1(x)").append(("commit", 1))
        self.assertEqual(read_schedule("r1(x)"), [("read", 1, "x")])


class FaultsTest(unittest.TestCase):
    def check(self, text, place, what):
        with self.assertRaises(ScheduleError) as caught:
            read_schedule(text)
        self.assertEqual((caught.exception.place, caught.exception.what), (place, what))

    def test_words_that_are_no_operations(self):
        for word in NO_OPERATIONS:
            with self.subTest(word=word):
                self.check(word, 0, "not an operation")
                self.check("r1(x) " + word, 1, "not an operation")
                self.check("c1 " + word, 1, "not an operation")

    def test_each_fault(self):
        for text, place, what in FAULTS:
            with self.subTest(text=text):
                self.check(text, place, what)

    def test_sixty_words_and_one_more(self):
        self.assertEqual(len(read_schedule(" ".join(["r1(x)"] * 60))), 60)
        self.check(" ".join(["r1(x)"] * 61), 60, "too many operations")
        self.check(" ".join(["r1(x)"] * 65), 60, "too many operations")

    def test_which_fault_of_the_sixty_first_word_comes_first(self):
        self.check(" ".join(["r1(x)"] * 60 + ["r1(X)"]), 60, "not an operation")
        self.check(" ".join(["r1(x)"] * 60 + [""]), 60, "not an operation")
        self.check(" ".join(["r1(x)"] * 59 + ["c1", "r1(x)"]), 60, "already ended")
        self.check(" ".join(["r1(x)"] * 59 + ["c1", "r2(x)"]), 60, "too many operations")
        self.check(" ".join(["r1(x)"] * 60 + ["r2(x)", "nothing"]), 60, "too many operations")
        self.check(" ".join(["r1(x)"] * 59 + ["nothing", "r1(x)"]), 59, "not an operation")


# (text, its transactions, the text without the aborted)
SCHEDULES = [
    ("", [], ""),
    ("r1(x)", [1], "r1(x)"),
    ("a1", [1], ""),
    ("c3", [3], "c3"),
    ("r3(x) w1(x) c3 a1 w2(y)", [1, 2, 3], "r3(x) c3 w2(y)"),
    ("w8(x) w2(x) w8(y) c2 a8", [2, 8], "w2(x) c2"),
    ("r5(x) r4(x) a4 a5", [4, 5], ""),
    ("w2(x) w1(x) w2(x) w1(x)", [1, 2], "w2(x) w1(x) w2(x) w1(x)"),
]


class TransactionsTest(unittest.TestCase):
    def test_transactions_of(self):
        for text, transactions, _ in SCHEDULES:
            with self.subTest(text=text):
                self.assertEqual(transactions_of(read_schedule(text)), transactions)

    def test_without_aborted(self):
        for text, _, left in SCHEDULES:
            with self.subTest(text=text):
                self.assertEqual(format_schedule(without_aborted(read_schedule(text))), left)


class NothingIsModifiedTest(unittest.TestCase):
    def test_the_schedule(self):
        for text, _, _ in SCHEDULES:
            schedule = read_schedule(text)
            before = copy.deepcopy(schedule)
            format_schedule(schedule)
            transactions_of(schedule).append(9)
            without_aborted(schedule).append(("commit", 9))
            with self.subTest(text=text):
                self.assertEqual(schedule, before)

    def test_defined_in_this_module(self):
        for function in [format_schedule, read_schedule, transactions_of, without_aborted]:
            with self.subTest(function=function.__name__):
                self.assertEqual(function.__module__, "ordershown.schedules")


if __name__ == "__main__":
    unittest.main()
