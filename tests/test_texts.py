"""Tests of points [2], [4] and [5]: show_date and show_steps."""

import random
import unittest

from monthclamp.readings import read_steps
from monthclamp.steps import move, visits
from monthclamp.texts import show_date, show_steps
from samples import FAR, WRONG_DATES, random_date


class ShowDateTest(unittest.TestCase):
    def test_example_of_the_document(self):
        self.assertEqual([show_date((-4, 2, 29)), show_steps([1, -12, 0])], ["-4/2/29", "+1 -12 0"])

    def test_ordinary_dates(self):
        for date, text in (
            ((2023, 1, 31), "2023/1/31"), ((2024, 2, 29), "2024/2/29"), ((1999, 12, 9), "1999/12/9"),
            ((2000, 10, 10), "2000/10/10"), ((1, 1, 1), "1/1/1"), ((99, 11, 30), "99/11/30"),
        ):
            self.assertEqual(show_date(date), text)
            self.assertIs(type(show_date(date)), str)

    def test_year_0_and_negative_years(self):
        for date, text in (
            ((0, 1, 1), "0/1/1"), ((0, 2, 29), "0/2/29"), ((-1, 12, 31), "-1/12/31"), ((-100, 3, 5), "-100/3/5"),
            ((-2024, 2, 29), "-2024/2/29"),
        ):
            self.assertEqual(show_date(date), text)

    def test_very_great_years(self):
        self.assertEqual(show_date((FAR, 2, 29)), "1" + "0" * 30 + "/2/29")
        self.assertEqual(show_date((-FAR, 12, 31)), "-1" + "0" * 30 + "/12/31")
        self.assertEqual(show_date((FAR - 1, 1, 31)), "9" * 30 + "/1/31")
        self.assertEqual(show_date((10 ** 70, 1, 31)), "1" + "0" * 70 + "/1/31")
        self.assertEqual(show_date(move((FAR, 12, 31), [FAR] * 60)), "6" + "0" * 30 + "/12/30")

    def test_each_date_against_its_numbers(self):
        source = random.Random(61)
        for _ in range(500):
            date = random_date(source, (0, 7, -7, 2000, -2000, FAR, -FAR))
            self.assertEqual(show_date(date), "/".join(map(str, date)))

    def test_no_error_is_raised_for_a_date_that_does_not_exist(self):
        # show_date lists no error.
        for date in WRONG_DATES:
            self.assertEqual(show_date(date), "/".join(map(str, date)))

    def test_by_name(self):
        self.assertEqual(show_date(date=(2023, 1, 31)), "2023/1/31")


class ShowStepsTest(unittest.TestCase):
    def test_ordinary_lists(self):
        for steps, text in (
            ([], "none"), ([0], "0"), ([0, 0, 0], "0 0 0"), ([1], "+1"), ([-1], "-1"), ([10], "+10"), ([-120], "-120"),
            ([1, 1], "+1 +1"), ([12, -12], "+12 -12"), ([0, 5, 0, -5, 0], "0 +5 0 -5 0"), ([-3, 4800], "-3 +4800"),
        ):
            self.assertEqual(show_steps(steps), text)
            self.assertIs(type(show_steps(steps)), str)

    def test_very_great_steps(self):
        self.assertEqual(show_steps([FAR, -FAR]), "+1" + "0" * 30 + " -1" + "0" * 30)
        self.assertEqual(show_steps([10 ** 70 - 1]), "+" + "9" * 70)

    def test_against_the_signs_and_sizes_of_the_steps(self):
        source = random.Random(62)
        for k in range(300):
            steps = [source.choice((0, source.randint(-20, 20), source.randint(-FAR, FAR))) for _ in range(1 + k % 60)]
            words = show_steps(steps).split(" ")
            self.assertEqual([int(word) for word in words], steps)
            signs = ["+" if step > 0 else "-" if step < 0 else "0" for step in steps]
            self.assertEqual([word[0] for word in words], signs)
            self.assertEqual([len(word) for word in words], [len(str(abs(step))) + (step != 0) for step in steps])

    def test_long_lists(self):
        self.assertEqual(show_steps([1] * 5000), " ".join(["+1"] * 5000))
        self.assertEqual(show_steps([0] * 5000), "0" + " 0" * 4999)
        steps = visits([k * k for k in range(3000)])
        self.assertEqual([int(word) for word in show_steps(steps).split(" ")], steps)

    def test_the_list_is_left_alone_and_passed_by_name(self):
        steps = [1, -12, 0]
        self.assertEqual(show_steps(steps=steps), "+1 -12 0")
        self.assertEqual(steps, [1, -12, 0])
        empty = []
        self.assertEqual(show_steps(empty), "none")
        self.assertEqual(empty, [])

    def test_a_changed_list_has_its_own_text(self):
        steps = [1]
        self.assertEqual(show_steps(steps), "+1")
        steps.append(-2)
        self.assertEqual(show_steps(steps), "+1 -2")
        steps[0] = 0
        self.assertEqual(show_steps(steps), "0 -2")
        steps.clear()
        self.assertEqual(show_steps(steps), "none")
        steps.append(7)
        self.assertEqual(show_steps(steps), "+7")
        read = read_steps("+1 -2")
        read.append(3)
        self.assertEqual(show_steps(read), "+1 -2 +3")


if __name__ == "__main__":
    unittest.main()
