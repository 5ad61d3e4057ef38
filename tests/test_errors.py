"""Tests of point [3]: the error classes."""

import unittest

from monthclamp import errors
from monthclamp.errors import DateError, InvalidDate, InvalidNumber, NothingToUndo, Unreadable

WITH_VALUE = (InvalidDate, InvalidNumber, NothingToUndo, Unreadable)


class ErrorsTest(unittest.TestCase):
    def test_date_error_is_directly_below_value_error(self):
        self.assertEqual(DateError.__bases__, (ValueError,))

    def test_the_others_are_directly_below_date_error(self):
        for kind in WITH_VALUE:
            self.assertEqual(kind.__bases__, (DateError,), kind)

    def test_none_of_the_others_is_below_another_one(self):
        for kind in WITH_VALUE:
            for other in WITH_VALUE:
                self.assertEqual(issubclass(kind, other), kind == other, (kind, other))

    def test_there_are_no_other_classes(self):
        found = {thing for thing in vars(errors).values() if isinstance(thing, type)}
        self.assertEqual(found, {DateError, *WITH_VALUE})

    def test_names(self):
        names = [kind.__name__ for kind in (DateError, *WITH_VALUE)]
        self.assertEqual(names, ["DateError", "InvalidDate", "InvalidNumber", "NothingToUndo", "Unreadable"])

    def test_value_by_position_and_by_name(self):
        for kind in WITH_VALUE:
            for value in ((2023, 2, 29), 13, 0, -10 ** 30, "2023/2/29", ""):
                self.assertEqual(kind(value).value, value)
                self.assertEqual(kind(value=value).value, value)

    def test_exactly_one_argument(self):
        for kind in WITH_VALUE:
            with self.assertRaises(TypeError):
                kind()
            with self.assertRaises(TypeError):
                kind(1, 2)
            with self.assertRaises(TypeError):
                kind(other=1)

    def test_each_is_caught_as_date_error_and_as_value_error(self):
        for kind in WITH_VALUE:
            for above in (kind, DateError, ValueError):
                with self.assertRaises(above) as caught:
                    raise kind(7)
                self.assertIs(type(caught.exception), kind)
                self.assertEqual(caught.exception.value, 7)

    def test_each_error_has_its_own_value(self):
        first, second = InvalidNumber(1), InvalidNumber(2)
        self.assertEqual((first.value, second.value), (1, 2))


if __name__ == "__main__":
    unittest.main()
