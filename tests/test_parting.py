"""Tests of points [7] and [8]: parting_date."""

import random
import unittest

import reference
from monthclamp.normal import same_effect
from monthclamp.parting import parting_date
from monthclamp.steps import move, visits
from reference import through
from samples import FAR, STEPS, lists_for_comparison, place


class PartingDateTest(unittest.TestCase):
    def assert_date(self, date, told=None):
        """Assert that this is a date with a year from 0 to 399."""
        self.assertIs(type(date), tuple, told)
        self.assertEqual([type(number) for number in date], [int, int, int], told)
        year, month, day = date
        self.assertIn(year, range(400), told)
        self.assertIn(month, range(1, 13), told)
        self.assertIn(day, range(1, reference.length(year, month) + 1), told)

    def assert_parts(self, first, second):
        told = (first, second)
        for one, other in ((first, second), (second, first)):
            date = parting_date(one, other)
            self.assert_date(date, told)
            self.assertNotEqual(reference.jump(date, one), reference.jump(date, other), told)
            self.assertNotEqual(move(date, one), move(date, other), told)

    def assert_right(self, first, second, differ):
        if differ:
            self.assert_parts(first, second)
        else:
            self.assertIsNone(parting_date(first, second), (first, second))
            self.assertIsNone(parting_date(second, first), (second, first))

    def test_example_of_the_document(self):
        date = parting_date([48, -48], [])
        self.assertEqual([move(date, [48, -48]) == date, parting_date([4800, -4800], [])], [False, None])
        self.assert_date(date)

    def test_equal_lists_and_lists_with_the_same_effect(self):
        for first, second in (
            ([], []), ([5], [5]), ([], [0]), ([0, 0], []), ([4800, -4800], []), ([4801], [1, 4800]),
            ([1, 2, -3], [3, -2, -1]), ([12, -12], [24, -24]), ([24, -24], [-12, 12]), ([1200, -1200], [2400, -2400]),
            ([1] * 24, [1] * 12 + [2, -1] * 3 + [1] * 9), ([48, -48], [4848, -4848]),
        ):
            self.assert_right(first, second, False)

    def test_a_list_of_a_month_that_the_other_does_not_come_to(self):
        for month in range(1, 12):
            for years in (0, 1, 4, 100, 399, -1, -400):
                visit = 12 * years + month
                self.assert_parts([visit, -visit], [])
                self.assert_parts([visit, -visit, 24, -24], [24, -24])
        self.assert_parts([1, 1], [2])
        self.assert_parts([1, 12], [13])

    def test_years_at_one_month(self):
        for month in range(12):
            for first, second in (
                ((1,), ()), ((4,), ()), ((100,), ()), ((4,), (8,)), ((4,), (-4,)), ((100,), (200,)), ((100, 200), (4,)),
                ((1,), (4,)), ((1,), (100,)), ((4, 104), (4,)), ((4, 104), (204,)), ((2,), (3, 4, 96)), ((400,), ()),
            ):
                lists = [
                    through([month] + [12 * year + month for year in years] + [0]) for years in (first, second)
                ]
                differ = reference.effect(lists[0]) != reference.effect(lists[1])
                self.assert_right(*lists, differ)

    def test_one_year_in_400(self):
        both = [place(0, q) for q in range(50)]
        for month in range(12):
            for left_out in (0, 1, 7, 13, 24):
                at_month = [visit + month for visit in both if visit // 48 != left_out + 25]
                first = through(at_month + [0])
                second = through([0, month, month + 12, 0])
                lengths = [reference.smallest_lengths(steps) for steps in (first, second)]
                differing = [k for k in range(reference.CYCLE) if lengths[0][k] != lengths[1][k]]
                self.assertEqual(len(differing), 1, (month, left_out))
                self.assert_parts(first, second)
                year, found_month, day = parting_date(first, second)
                self.assertEqual(12 * year + found_month - 1, differing[0])
                self.assertGreater(day, 28)

    def test_one_year_in_400_wherever_it_is(self):
        for year in (0, 1, 2, 3, 100, 200, 396, 397, 398, 399):
            for month in (1, 6, 11):
                # All years after this one that are leap years: they are not so after any other one.
                visited = [12 * years + month for years in range(400) if reference.length(year + years, 2) == 29]
                first = through(visited + [0])
                second = through([month, month + 12, 0])
                self.assert_parts(first, second)
                date = parting_date(first, second)
                self.assertEqual((12 * date[0] + date[1] - 1 + month) % reference.CYCLE, 12 * year + 1)

    def test_different_totals(self):
        for first, second in (
            ([1], []), ([4800], []), ([4800], [-4800]), ([1200], [2400]), ([12], [24]), ([FAR], [-FAR]),
            ([FAR] * 60, [FAR] * 59), ([0], [-4800 * 10 ** 26]), ([1] * 60, [1] * 59), ([5, 7], [7]),
        ):
            self.assert_parts(first, second)

    def test_pairs_against_totals_and_the_lengths_of_4800_months(self):
        lists = lists_for_comparison()
        effects = [reference.effect(steps) for steps in lists]
        source = random.Random(21)
        answers = {True: 0, False: 0}
        for k, first in enumerate(lists):
            # The lists beside it often have the same effect, any others seldom.
            others = list(range(k, min(k + 6, len(lists)))) + [source.randrange(len(lists)) for _ in range(6)]
            others += [j for j in range(len(lists)) if effects[j][0] == effects[k][0] and source.randrange(8) == 0]
            for j in others:
                differ = effects[k] != effects[j]
                answers[differ] += 1
                self.assert_right(first, lists[j], differ)
                self.assertIs(same_effect(first, lists[j]), not differ)
        self.assertGreater(min(answers.values()), 300)

    def test_lists_with_the_same_steps_in_another_order(self):
        source = random.Random(22)
        answers = {True: 0, False: 0}
        pools = ((12, 24, -12, 36), (48, -48, 96, 1152), (1200, -1200, 2400, 4800), (1, 2, -1), STEPS)
        for k in range(500):
            first = [source.choice(pools[k % 5]) for _ in range(source.randrange(1, 6))]
            second = list(first)
            source.shuffle(second)
            differ = reference.effect(first) != reference.effect(second)
            answers[differ] += 1
            self.assert_right(first, second, differ)
        self.assertGreater(min(answers.values()), 100)

    def test_great_numbers(self):
        cycle = 4800 * 10 ** 26
        self.assert_right([cycle, -cycle], [], False)
        self.assert_right([cycle + 48, -cycle], [48], False)
        self.assert_right([cycle + 48, -cycle - 48], [cycle, -cycle], True)
        source = random.Random(23)
        answers = {True: 0, False: 0}
        for _ in range(100):
            first = [source.choice((source.randint(-FAR, FAR), FAR, -FAR)) for _ in range(source.choice((1, 3, 60)))]
            second = list(first)
            source.shuffle(second)
            if source.randrange(2):
                second = first[::-1] + [cycle, -cycle]
            differ = reference.effect(first) != reference.effect(second)
            answers[differ] += 1
            self.assert_right(first, second, differ)
        self.assertGreater(min(answers.values()), 5)

    def test_arguments_are_left_alone_and_passed_by_name(self):
        first, second = [48, -48], [24, -24]
        date = parting_date(first=first, second=second)
        self.assertEqual(parting_date(second=second, first=first), date)
        self.assertNotEqual(move(date, first), move(date, second))
        self.assertIsNone(parting_date(second=[0], first=[]))
        self.assertEqual((first, second), ([48, -48], [24, -24]))

    def test_returned_lists_may_be_passed_on(self):
        long = visits([k * k for k in range(3000)])
        self.assertIsNone(parting_date(long, long))
        self.assert_parts(long, long[:-1])


if __name__ == "__main__":
    unittest.main()
