"""Tests of ordershown.historytext: the text of a history, and how a text is read."""

import copy
import unittest

from making import back, call
from ordershown.errors import LineError
from ordershown.histories import history
from ordershown.historytext import format_history, read_history

THREE = [("c", "counter"), ("q", "queue"), ("s", "set")]

MIXED = history(THREE, [
    call("a", "c", "add", 5),
    call("b", "q", "put", 0),
    back("b", "ok"),
    call("b", "c", "get"),
    back("a", "ok"),
    back("b", 9999),
    call("a", "s", "has", 99),
    call("b", "q", "take"),
    back("b", 0),
    call("b", "q", "take"),
    back("b", "empty"),
    back("a", "no"),
])

MIXED_TEXT = """object c counter
object q queue
object s set
call a c add 5
call b q put 0
return b ok
call b c get
return a ok
return b 9999
call a s has 99
call b q take
return b 0
call b q take
return b empty
return a no
"""

SWAPPED = history([("r1", "register")], [
    call("client7", "r1", "swap", 10, 3), back("client7", "yes"), call("z", "r1", "write", 40), call("y", "r1", "read"),
])

SWAPPED_TEXT = (
    "object r1 register\ncall client7 r1 swap 10 3\nreturn client7 yes\ncall z r1 write 40\ncall y r1 read\n"
)

# Lines that are not understood wherever they stand.
WRONG_LINES = [
    "", " ", "object", "call", "return", "jump", "Object x set", "objects x set", "write a x 1", "set", "x",
    # objects
    "object x", "object set", "object x set set", "object x stack", "object X set", "object 1 set", "object x Set",
    "object abcdefghi set", "object  x set", "object x  set", "object x set ", " object x set", "object x 1",
    "object a-b set", "object x read",
    # calls
    "call a", "call a x", "call x read", "call A x read", "call a X read", "call 1 x read", "call a 1 read",
    "call abcdefghi x read", "call a abcdefghi read", "call a x jump", "call a x Read", "call a x set", "call a x ok",
    "call a x 1", "call  a x read", "call a  x read", "call a x  read", "call a x read ", " call a x read",
    "call a x write  1", "call a x swap 1  2", "call a x write 1 2 3", "call a x write one", "call a x write ok",
    "call a x write 10000", "call a x write 00001", "call a x write 01", "call a x write 00", "call a x write 0001",
    "call a x write +1", "call a x write -1", "call a x write -0", "call a x write 1.0", "call a x write 1_0",
    "call a x swap 1 02", "call a x swap 01 2", "call a x swap 1 -2", "call a x swap 1 10000", "call a x write 0x1",
    # returns
    "return a", "return ok", "return a ok ok", "return a 1 2", "return A 1", "return 1 1", "return abcdefghi 1",
    "return  a 1", "return a  1", "return a 1 ", " return a 1", "return a Ok", "return a full", "return a none",
    "return a 10000", "return a 12345", "return a 01", "return a 00", "return a 0000", "return a -1", "return a +1",
    "return a 1-", "return a read", "return a None", "return a okay", "return a x ok",
]

ELEVEN_CALLS = "".join([f"call a{n} x read\n" for n in range(11)])

# Texts whose lines are all understood, with the fault, and its line.
FAULTS = [
    ("", 0, "wrong objects"),
    ("call a x read\n", 0, "wrong objects"),
    ("object y set\nobject x set\n", 0, "wrong objects"),
    ("object x set\nobject x set\ncall a x take\n", 0, "wrong objects"),
    ("object a set\nobject b set\nobject c set\nobject d set\n", 0, "wrong objects"),
    ("object x register\ncall a x read\ncall a x read\n", 3, "call is pending"),
    ("object x register\ncall a y read\n", 2, "unknown object"),
    ("object x register\nobject y set\ncall a x read\ncall b y read\n", 4, "unknown operation"),
    ("object x register\ncall a x put 1\n", 2, "unknown operation"),
    ("object x register\ncall a x write\n", 2, "wrong arguments"),
    ("object x register\ncall a x write 1 2\n", 2, "wrong arguments"),
    ("object x register\ncall a x write 100\n", 2, "wrong arguments"),
    ("object x register\ncall a x write 9999\n", 2, "wrong arguments"),
    ("object x register\ncall a x read 0\n", 2, "wrong arguments"),
    ("object x register\ncall a x swap 1\n", 2, "wrong arguments"),
    ("object x register\nreturn a ok\n", 2, "nothing is pending"),
    ("object x register\ncall a x read\nreturn b 1\n", 3, "nothing is pending"),
    ("object x register\ncall a x read\nreturn a ok\n", 3, "wrong result"),
    ("object x register\ncall a x write 1\nreturn a 1\n", 3, "wrong result"),
    ("object q queue\nobject x register\ncall a x write 1\nreturn a empty", 4, "wrong result"),
    ("object x register\n" + ELEVEN_CALLS, 13, "too many calls"),
    ("object x register\n" + ELEVEN_CALLS + "call b x read\nreturn a0 0", 15, "too many calls"),
    ("object q queue\nobject x register\n" + "call a x read\nreturn a 0\n" * 11, 25, "too many calls"),
    ("object x register\n" + ELEVEN_CALLS + "return b 0", 13, "nothing is pending"),
]


class FormatTest(unittest.TestCase):
    def test_line_by_line(self):
        self.assertEqual(format_history(MIXED), MIXED_TEXT)
        self.assertEqual(format_history(SWAPPED), SWAPPED_TEXT)

    def test_without_events(self):
        self.assertEqual(format_history(history(THREE, [])), "object c counter\nobject q queue\nobject s set\n")

    def test_the_history_is_not_modified(self):
        before = copy.deepcopy(MIXED)
        format_history(MIXED)
        self.assertEqual(MIXED, before)


class GoodTextsTest(unittest.TestCase):
    def test_with_and_without_the_last_newline(self):
        for made, text in [(MIXED, MIXED_TEXT), (SWAPPED, SWAPPED_TEXT)]:
            with self.subTest(text=text):
                self.assertEqual(read_history(text), made)
                self.assertEqual(read_history(text[:-1]), made)

    def test_kinds_of_values(self):
        objects, events = read_history("object x register\ncall a x swap 0 10\nreturn a no\ncall a x read\nreturn a 10")
        self.assertIs(type(objects), tuple)
        self.assertIs(type(events), tuple)
        self.assertEqual(events, (
            ("call", "a", "x", "swap", (0, 10)), ("return", "a", "no"),
            ("call", "a", "x", "read", ()), ("return", "a", 10),
        ))

    def test_only_objects(self):
        self.assertEqual(read_history("object x register"), ((("x", "register"),), ()))
        self.assertEqual(read_history("object x register\n"), ((("x", "register"),), ()))

    def test_the_example_of_the_interface(self):
        found = read_history("object x register\ncall a x write 5\ncall b x read\nreturn b 5\n")[1]
        self.assertEqual(found, (("call", "a", "x", "write", (5,)), ("call", "b", "x", "read", ()), ("return", "b", 5)))

    def test_names_that_are_words_of_the_text(self):
        text = "object object set\ncall call object has 1\nreturn call yes\n"
        found = read_history(text)
        self.assertEqual(found, ((("object", "set"),), (call("call", "object", "has", 1), back("call", "yes"))))
        self.assertEqual(format_history(found), text)

    def test_results_of_all_lengths(self):
        for result in (0, 7, 10, 99, 100, 999, 1000, 9999):
            with self.subTest(result=result):
                found = read_history(f"object x counter\ncall a x get\nreturn a {result}")
                self.assertEqual(found[1][1], ("return", "a", result))

    def test_ten_calls(self):
        text = "object x register\n" + "call a x read\nreturn a 0\n" * 10
        self.assertEqual(format_history(read_history(text)), text)


class WrongTextsTest(unittest.TestCase):
    def refused(self, text, line, what):
        with self.assertRaises(LineError) as caught:
            read_history(text)
        self.assertEqual((caught.exception.line, caught.exception.what), (line, what))

    def test_a_wrong_first_line(self):
        for line in WRONG_LINES:
            with self.subTest(line=line):
                self.refused(line + "\n", 1, "not understood")

    def test_a_wrong_last_line(self):
        for line in WRONG_LINES:
            with self.subTest(line=line):
                self.refused(MIXED_TEXT + line + "\n", 16, "not understood")

    def test_a_wrong_line_in_the_middle(self):
        for line in WRONG_LINES:
            with self.subTest(line=line):
                self.refused(f"object x register\ncall a x read\n{line}\nreturn a 5", 3, "not understood")

    def test_a_wrong_last_line_without_its_newline(self):
        for line in WRONG_LINES[1:]:
            with self.subTest(line=line):
                self.refused(MIXED_TEXT + line, 16, "not understood")

    def test_of_two_wrong_lines_the_first_one(self):
        self.refused("object x register\njump\ncall a x read\nwalk", 2, "not understood")

    def test_an_empty_line(self):
        self.refused("\n", 1, "not understood")
        self.refused("\n\n", 1, "not understood")
        self.refused("\n" + MIXED_TEXT, 1, "not understood")
        self.refused(MIXED_TEXT + "\n", 16, "not understood")

    def test_an_object_behind_a_line_of_another_kind(self):
        self.refused("object x register\ncall a x read\nobject y set\n", 3, "not understood")
        self.refused("object x register\nreturn a 1\nobject y set\n", 3, "not understood")
        self.refused("call a x read\nobject x register\n", 2, "not understood")

    def test_faults_of_the_history(self):
        for text, line, what in FAULTS:
            with self.subTest(text=text):
                self.refused(text, line, what)

    def test_lines_that_are_not_understood_come_ahead_of_other_faults(self):
        for text, _, what in FAULTS:
            if text != "":
                with self.subTest(what=what):
                    whole = text if text.endswith("\n") else text + "\n"
                    self.refused(whole + "jump", whole.count("\n") + 1, "not understood")

    def test_defined_in_this_module(self):
        for function in [format_history, read_history]:
            with self.subTest(function=function.__name__):
                self.assertEqual(function.__module__, "ordershown.historytext")


if __name__ == "__main__":
    unittest.main()
