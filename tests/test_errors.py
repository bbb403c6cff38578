"""Tests of ordershown.errors."""

import unittest

from ordershown.errors import (
    HistoryError,
    LineError,
    LockError,
    ManagerError,
    OrderError,
    ScheduleError,
)

# Each error with the names of its attributes, in order, and values for them.
ERRORS = [
    (HistoryError, ["place", "what"], [-1, "wrong objects"]),
    (LineError, ["line", "what"], [4, "not understood"]),
    (ScheduleError, ["place", "what"], [60, "too many operations"]),
    (LockError, ["what"], ["waits already"]),
    (ManagerError, ["what"], ["has to wait"]),
]


class BasesTest(unittest.TestCase):
    def test_order_error_is_a_value_error(self):
        self.assertEqual(OrderError.__bases__, (ValueError,))

    def test_the_others_are_order_errors(self):
        for error, _, _ in ERRORS:
            with self.subTest(error=error.__name__):
                self.assertTrue(issubclass(error, OrderError))
                self.assertIsNot(error, OrderError)

    def test_none_is_a_base_of_another(self):
        for error, _, _ in ERRORS:
            for other, _, _ in ERRORS:
                if error is not other:
                    with self.subTest(error=error.__name__, other=other.__name__):
                        self.assertFalse(issubclass(error, other))

    def test_all_are_defined_in_this_module(self):
        for error in [OrderError] + [error for error, _, _ in ERRORS]:
            with self.subTest(error=error.__name__):
                self.assertEqual(error.__module__, "ordershown.errors")


class AttributesTest(unittest.TestCase):
    def test_created_with_the_values_in_order(self):
        for error, names, values in ERRORS:
            with self.subTest(error=error.__name__):
                made = error(*values)
                self.assertEqual([getattr(made, name) for name in names], values)

    def test_another_number_of_values_is_refused(self):
        for error, _, values in ERRORS:
            with self.subTest(error=error.__name__):
                with self.assertRaises(TypeError):
                    error(*values, "more")
                with self.assertRaises(TypeError):
                    error(*values[1:])

    def test_raised_and_caught_with_its_attributes(self):
        for error, names, values in ERRORS:
            with self.subTest(error=error.__name__):
                with self.assertRaises(OrderError) as caught:
                    raise error(*values)
                self.assertIs(type(caught.exception), error)
                found = [getattr(caught.exception, name) for name in names]
                self.assertEqual(found, values)

    def test_the_message_tells_what(self):
        for error, _, values in ERRORS:
            with self.subTest(error=error.__name__):
                self.assertIn(values[-1], str(error(*values)))


if __name__ == "__main__":
    unittest.main()
