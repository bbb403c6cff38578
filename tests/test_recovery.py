"""Tests of ordershown.recovery: what may be read."""

import copy
import unittest

import schedulereference
from ordershown.recovery import breaks
from ordershown.schedules import read_schedule

# (text, the first places at which it breaks recoverability, cascadelessness and strictness)
SCHEDULES = [
    ("", (None, None, None)),
    ("r1(x) w1(x) c1", (None, None, None)),
    # Strict: what is read or written is committed, or nobody's.
    ("w1(x) c1 r2(x) w2(x) c2", (None, None, None)),
    ("w1(x) r2(y) w2(z) c2 c1", (None, None, None)),
    # From itself, whether it commits or not.
    ("w1(x) r1(x) w1(x) r1(x) c1", (None, None, None)),
    # Strictness alone: at a write.
    ("w1(x) w2(x) c1 c2", (None, None, 1)),
    ("w1(x) c1 w2(x) w3(x)", (None, None, 3)),
    # Cascadelessness, and so strictness: at a read.
    ("w1(x) r2(x) c1 c2", (None, 1, 1)),
    ("w1(x) r2(x)", (None, 1, 1)),
    # All three: the commit comes first.
    ("w1(x) r2(x) c2 c1", (2, 1, 1)),
    ("w1(x) r2(x) c2", (2, 1, 1)),
    ("w1(x) r2(x) r2(y) w3(y) c2", (4, 1, 1)),
    # An abort behind the read does not make the commit right.
    ("w1(x) r2(x) a1 c2", (3, 1, 1)),
    ("w1(x) r2(x) c1 w3(y) r2(y) c2", (5, 1, 1)),
    # A transaction that read so and does not commit does not break recoverability.
    ("w1(x) r2(x) a2 c1", (None, 1, 1)),
    ("w1(x) r2(x) a1 a2", (None, 1, 1)),
    # A write breaks strictness ahead of a read, and a read ahead of a write.
    ("w1(x) w2(x) r3(x) c3", (3, 2, 1)),
    ("w1(x) r2(x) w2(x)", (None, 1, 1)),
    ("w1(x) w2(y) r3(y) w3(x)", (None, 2, 2)),
    # A commit ahead of the place, and one behind it.
    ("w1(x) c1 r2(x) c2", (None, None, None)),
    ("w1(x) r2(x) c1 r2(x) c2", (None, 1, 1)),
    # A write that is taken back ahead of the place does not count, but the one ahead of it does.
    ("w1(x) a1 r2(x) c2", (None, None, None)),
    ("w1(x) a1 w2(x) c2", (None, None, None)),
    ("w1(x) w2(x) a2 r3(x) c3", (4, 3, 1)),
    ("w1(x) c1 w2(x) a2 r3(x) c3", (None, None, None)),
    ("w1(x) w2(x) a2 r1(x) c1", (None, None, 1)),
    # An abort behind the place takes nothing back at the place.
    ("w1(x) r2(x) a1 r2(x) c2", (4, 1, 1)),
    ("w3(x) c3 w1(x) r2(x) a1 c2", (5, 3, 3)),
    # The writer of the item counts, not that of another item.
    ("w1(x) w1(y) w2(z) r2(z) c2", (None, None, None)),
    # The last write ahead, though an earlier one is of an open transaction.
    ("w1(x) w2(x) c2 r3(x) c3", (None, None, 1)),
    # An aborted transaction's reads and writes count, too.
    ("w1(x) r2(x) w3(x) a2 a3 c1", (None, 1, 1)),
    # The second of several reads is the one that breaks.
    ("r2(x) w1(y) r2(z) r2(y) c2", (4, 3, 3)),
    # The first of several commits.
    ("w1(x) r3(x) r2(x) c1 c3 w4(x) r2(x) c2", (7, 1, 1)),
    ("w1(x) r3(x) r2(x) c2 c3 c1", (3, 1, 1)),
]


class BreaksTest(unittest.TestCase):
    def test_each_schedule(self):
        for text, told in SCHEDULES:
            with self.subTest(text=text):
                found = breaks(read_schedule(text))
                self.assertEqual(found, told)
                self.assertIs(type(found), tuple)

    def test_all_small_schedules(self):
        words = ("read", "write", "commit", "abort")
        schedules = schedulereference.small_schedules((1, 2), words, "x", 5)
        schedules += schedulereference.small_schedules((1, 2, 3), words, "x", 4)
        for schedule in schedules:
            found = breaks(schedule)
            self.assertEqual(found, schedulereference.breaks(schedule), schedule)
            # What breaks none does not break those ahead of it either.
            recoverable, cascadeless, strict = [place is None for place in found]
            self.assertTrue(cascadeless or not strict, schedule)
            self.assertTrue(recoverable or not cascadeless, schedule)

    def test_the_schedule_is_not_modified(self):
        for text, _ in SCHEDULES:
            schedule = read_schedule(text)
            before = copy.deepcopy(schedule)
            breaks(schedule)
            with self.subTest(text=text):
                self.assertEqual(schedule, before)

    def test_defined_in_this_module(self):
        self.assertEqual(breaks.__module__, "ordershown.recovery")


if __name__ == "__main__":
    unittest.main()
