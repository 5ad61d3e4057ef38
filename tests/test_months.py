"""Tests of point [4]: leap years and the lengths of months."""

import calendar
import unittest

from monthclamp.errors import InvalidNumber
from monthclamp.months import days_in, is_leap

FAR = 10 ** 30


class LeapTest(unittest.TestCase):
    def test_example_of_the_document(self):
        answers = [is_leap(1900), is_leap(2000), is_leap(-4), days_in(2024, 2), days_in(0, 4)]
        self.assertEqual(answers, [False, True, True, 29, 30])

    def test_years_that_4_100_and_400_divide_and_their_neighbours(self):
        for base in (0, 400, 2000, -400, -2000, FAR, -FAR, FAR - 400, -FAR - 400):
            for offset, leap in (
                (-101, False), (-100, False), (-99, False), (-96, True), (-4, True), (-3, False), (-2, False),
                (-1, False), (0, True), (1, False), (2, False), (3, False), (4, True), (5, False), (96, True),
                (99, False), (100, False), (101, False), (104, True), (196, True), (200, False), (204, True),
                (300, False), (304, True), (396, True), (399, False), (400, True),
            ):
                self.assertIs(is_leap(base + offset), leap, (base, offset))

    def test_against_the_calendar(self):
        for year in range(1, 2401):
            self.assertIs(is_leap(year), calendar.isleap(year), year)
            self.assertIs(is_leap(year - 2400), calendar.isleap(year), year - 2400)

    def test_97_leap_years_in_400(self):
        for first in (0, -400, 7, FAR - 3, -FAR + 1):
            self.assertEqual(len([k for k in range(400) if is_leap(first + k)]), 97)

    def test_by_name(self):
        self.assertIs(is_leap(year=2000), True)


class DaysTest(unittest.TestCase):
    def test_lengths(self):
        common = [31, 28, 31, 30, 31, 30, 31, 31, 30, 31, 30, 31]
        leap = [31, 29, 31, 30, 31, 30, 31, 31, 30, 31, 30, 31]
        for year in (1, 99, 100, 1900, 2023, 2100, -1, -3, -100, -399, FAR + 1, FAR + 100, -FAR - 1, -FAR + 300):
            self.assertEqual([days_in(year, month) for month in range(1, 13)], common, year)
        for year in (0, 4, 96, 400, 2000, 2024, -4, -400, -396, FAR, FAR + 4, -FAR, -FAR - 4):
            self.assertEqual([days_in(year, month) for month in range(1, 13)], leap, year)

    def test_against_the_calendar(self):
        for year in range(1, 401):
            for month in range(1, 13):
                days = calendar.monthrange(year, month)[1]
                for shifted in (year, year - 400, year - 4000, year + FAR, year - FAR):
                    self.assertEqual(days_in(shifted, month), days, (shifted, month))

    def test_wrong_months(self):
        for year in (2023, 2024, 0, -4, FAR, -FAR):
            for month in (0, 13, 14, 24, -1, -2, -11, -12, -13, FAR, -FAR, 12 * FAR + 2):
                with self.assertRaises(InvalidNumber) as caught:
                    days_in(year, month)
                self.assertIs(type(caught.exception), InvalidNumber)
                self.assertEqual(caught.exception.value, month)

    def test_by_name(self):
        self.assertEqual(days_in(year=2024, month=2), 29)
        self.assertEqual(days_in(month=4, year=2), 30)


if __name__ == "__main__":
    unittest.main()
