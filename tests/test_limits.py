"""Tests of ordershown.limits."""

import unittest

from ordershown import limits


class LimitsTest(unittest.TestCase):
    def test_each_limit(self):
        told = {
            "VALUE": 99,
            "RESULT": 9999,
            "OBJECTS": 3,
            "CALLS": 10,
            "TRANSACTIONS": 8,
            "OPERATIONS": 60,
            "VIEWED": 6,
            "SCRIPTS": 6,
            "STEPS": 8,
        }
        for name, number in told.items():
            with self.subTest(name=name):
                found = getattr(limits, name)
                self.assertIs(type(found), int)
                self.assertEqual(found, number)


if __name__ == "__main__":
    unittest.main()
