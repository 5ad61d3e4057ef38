"""Tests of points [2], [4], [5] and [6]: move and visits."""

import random
import unittest

import reference
from monthclamp.errors import InvalidDate
from monthclamp.steps import move, visits
from samples import FAR, WRONG_DATES, random_date

# Zeros, single months, whole years, cycles of leap years, and both signs of each.
STEPS = [0] + [
    sign * size
    for sign in (1, -1)
    for size in (1, 2, 5, 7, 11, 12, 13, 24, 36, 48, 60, 600, 1188, 1200, 1201, 2400, 4799, 4800, 4801)
]


class DateCheckTest(unittest.TestCase):
    def assert_invalid(self, date, steps):
        with self.assertRaises(InvalidDate) as caught:
            move(date, steps)
        self.assertIs(type(caught.exception), InvalidDate)
        self.assertEqual(caught.exception.value, date)

    def test_wrong_dates(self):
        for date in WRONG_DATES:
            for steps in ([], [0], [1], [-1, 12], [FAR]):
                self.assert_invalid(date, steps)

    def test_dates_that_exist_and_the_days_beside_them(self):
        for year in (0, 1, 4, 100, 400, 1900, 2000, 2023, 2024, -1, -4, -100, -400, FAR, FAR + 1, -FAR, -FAR + 100):
            for month in range(1, 13):
                last = reference.length(year, month)
                for day in range(1, last + 1):
                    self.assertEqual(move((year, month, day), []), (year, month, day))
                self.assert_invalid((year, month, last + 1), [])
                self.assert_invalid((year, month, 0), [])
            self.assert_invalid((year, 0, 1), [])
            self.assert_invalid((year, 13, 1), [])


class MoveTest(unittest.TestCase):
    def test_example_of_the_document(self):
        answers = [move((2023, 1, 31), [1, 1]), move((2023, 1, 31), [2]), move((2024, 2, 29), [-12, 12])]
        self.assertEqual(answers, [(2023, 3, 28), (2023, 3, 31), (2024, 2, 28)])

    def test_the_answer_is_a_tuple(self):
        self.assertIs(type(move((2023, 1, 31), [])), tuple)
        self.assertIs(type(move((2023, 1, 31), [1])), tuple)

    def test_the_day_is_cut_only_in_the_new_month(self):
        self.assertEqual(move((2024, 1, 31), [1]), (2024, 2, 29))
        self.assertEqual(move((2023, 1, 31), [1]), (2023, 2, 28))
        self.assertEqual(move((2023, 3, 31), [-1]), (2023, 2, 28))
        self.assertEqual(move((2023, 12, 31), [2]), (2024, 2, 29))
        self.assertEqual(move((2023, 1, 31), [14]), (2024, 3, 31))
        self.assertEqual(move((2024, 2, 29), [1200]), (2124, 2, 29))
        self.assertEqual(move((2000, 2, 29), [1200]), (2100, 2, 28))
        self.assertEqual(move((2000, 2, 29), [4800, -2400, -2400]), (2000, 2, 28))

    def test_a_step_0_changes_nothing(self):
        for date in ((2024, 2, 29), (2023, 1, 31), (0, 12, 1), (-FAR, 4, 30)):
            self.assertEqual(move(date, [0, 0, 0]), date)
        self.assertEqual(move((2023, 1, 31), [0, 2, 0]), (2023, 3, 31))

    def test_over_year_0(self):
        self.assertEqual(move((0, 1, 31), [-1]), (-1, 12, 31))
        self.assertEqual(move((-1, 12, 31), [1]), (0, 1, 31))
        self.assertEqual(move((0, 3, 31), [-13]), (-1, 2, 28))
        self.assertEqual(move((1, 1, 31), [-11]), (0, 2, 29))

    def test_the_model_walks_400_years_in_4800_months(self):
        for date in ((2000, 2, 29), (1999, 12, 31), (-1, 1, 1)):
            year, month, day = date
            self.assertEqual(reference.walk(date, [4800]), (year + 400, month, day))
            self.assertEqual(reference.walk(date, [-4800]), (year - 400, month, day))

    def test_the_model_jumps_as_it_walks(self):
        source = random.Random(4)
        for _ in range(300):
            date = random_date(source, (0, 100, 2000, -100, FAR))
            steps = [source.choice(STEPS) for _ in range(source.randrange(6))]
            self.assertEqual(reference.jump(date, steps), reference.walk(date, steps), (date, steps))

    def test_single_steps_month_by_month(self):
        for date in ((2023, 1, 31), (2024, 2, 29), (2000, 2, 29), (1999, 12, 30), (0, 5, 31), (-3, 10, 29), (-1, 1, 1)):
            for step in STEPS:
                self.assertEqual(move(date, [step]), reference.walk(date, [step]), (date, step))
            for step in range(-60, 61):
                self.assertEqual(move(date, [step]), reference.walk(date, [step]), (date, step))

    def test_lists_month_by_month(self):
        source = random.Random(5)
        for _ in range(600):
            date = random_date(source, (0, 100, 400, 1900, 2000, 2024, -100, -2000))
            steps = [source.choice(STEPS) for _ in range(source.randrange(6))]
            self.assertEqual(move(date, steps), reference.walk(date, steps), (date, steps))

    def test_great_numbers(self):
        source = random.Random(6)
        for _ in range(300):
            date = random_date(source, (FAR - 5, -FAR + 5, 0, 10 ** 29 + 100, -10 ** 29 - 96))
            steps = [
                source.choice((source.randint(-FAR, FAR), FAR, -FAR, FAR - 1, 0, 1, -1, 48, -1200))
                for _ in range(source.choice((1, 2, 5, 60)))
            ]
            self.assertEqual(move(date, steps), reference.stride(date, steps), (date, steps))

    def test_the_day_is_the_smallest_length_at_all_visits(self):
        source = random.Random(7)
        for _ in range(300):
            date = random_date(source, (0, 2000, -100, FAR))
            steps = [source.choice(STEPS) for _ in range(source.randrange(8))]
            place = date[0] * 12 + date[1] - 1
            lengths = [reference.LENGTHS[(place + visit) % reference.CYCLE] for visit in visits(steps)]
            year, month, day = move(date, steps)
            self.assertEqual(year * 12 + month - 1, place + sum(steps))
            self.assertEqual(day, min([date[2]] + lengths))

    def test_all_bounds_at_once(self):
        # FAR leaves 4 modulo 12: from December to April, August and December again.
        self.assertEqual(move((FAR, 12, 31), [FAR] * 60), (6 * FAR, 12, 30))
        self.assertEqual(move((-FAR, 1, 31), [-FAR] * 60), (-6 * FAR, 1, 30))

    def test_arguments_are_left_alone_and_passed_by_name(self):
        date, steps = (2023, 1, 31), [1, 1]
        self.assertEqual(move(date=date, steps=steps), (2023, 3, 28))
        self.assertEqual(move(steps=steps, date=date), (2023, 3, 28))
        self.assertEqual((date, steps), ((2023, 1, 31), [1, 1]))
        with self.assertRaises(InvalidDate):
            move((2023, 2, 29), steps)
        self.assertEqual(steps, [1, 1])


class VisitsTest(unittest.TestCase):
    def test_example_of_the_document(self):
        self.assertEqual([visits([1, 2, -3]), visits([])], [[0, 1, 3], [0]])

    def test_ordinary_lists(self):
        self.assertEqual(visits([0]), [0])
        self.assertEqual(visits([0, 0, 5]), [0, 5])
        self.assertEqual(visits([-1]), [-1, 0])
        self.assertEqual(visits([-5, 3, 10]), [-5, -2, 0, 8])
        self.assertEqual(visits([12, -12, 12]), [0, 12])
        self.assertEqual(visits([FAR] * 3), [0, FAR, 2 * FAR, 3 * FAR])
        self.assertEqual(visits([-FAR, 1, FAR]), [-FAR, 1 - FAR, 0, 1])

    def test_ascending_without_duplicates_and_with_0(self):
        source = random.Random(8)
        for _ in range(300):
            steps = [source.choice(STEPS + [FAR, -FAR]) for _ in range(source.randrange(61))]
            found = visits(steps)
            self.assertIs(type(found), list)
            self.assertEqual(found, sorted({sum(steps[:k]) for k in range(len(steps) + 1)}))
            self.assertIn(0, found)
            self.assertIn(sum(steps), found)

    def test_the_list_is_new_and_the_argument_is_left_alone(self):
        for steps in ([], [1, 2, -3]):
            before = list(steps)
            found = visits(steps)
            self.assertIsNot(found, steps)
            told = list(found)
            again = visits(steps=steps)
            again.append(99)
            again[0] = -99
            self.assertEqual(found, told)
            self.assertEqual(visits(steps), told)
            self.assertEqual(steps, before)

    def test_a_later_change_of_the_argument_changes_no_answer(self):
        steps = [1, 2]
        found = visits(steps)
        steps.append(5)
        steps[0] = 7
        self.assertEqual(found, [0, 1, 3])

    def test_returned_lists_and_dates_may_be_passed_on(self):
        found = visits([FAR] * 60)
        for _ in range(3):
            found = visits(found)
        date = move(move((2024, 2, 29), found), found)
        self.assertEqual(date, reference.stride((2024, 2, 29), found + found))
        self.assertEqual(len(visits(list(range(1, 20001)))), 20001)
        self.assertEqual(move((2023, 1, 31), [1] * 20000), reference.walk((2023, 1, 31), [1] * 20000))


if __name__ == "__main__":
    unittest.main()
