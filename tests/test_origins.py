"""Tests of points [2], [4], [5] and [6]: origins and uncut_dates."""

import random
import unittest

import reference
from monthclamp.errors import InvalidDate
from monthclamp.normal import normal_form
from monthclamp.origins import origins, uncut_dates
from monthclamp.shortest import shortest_list
from monthclamp.steps import move, visits
from reference import CYCLE, through
from samples import FAR, STEPS, WRONG_DATES, lists_for_comparison, place, random_date

YEARS = (0, 100, 400, 1900, 2000, 2024, -100, -2000)


def dates_of(year, month):
    """Return all dates of a month."""
    return [(year, month, day) for day in range(1, reference.length(year, month) + 1)]


class OriginsTest(unittest.TestCase):
    def assert_form(self, found, told):
        self.assertIs(type(found), list, told)
        for date in found:
            self.assertIs(type(date), tuple, told)
            self.assertEqual([type(number) for number in date], [int, int, int], told)
        self.assertEqual(found, sorted(set(found)), told)
        self.assertLessEqual(len(found), 4, told)

    def assert_origins(self, steps, date):
        """Hold the origins of a date against all dates of the month that the steps come from."""
        told = (steps, date)
        found = origins(steps, date)
        self.assert_form(found, told)
        year, month, _ = date
        start = 12 * year + month - 1 - sum(steps)
        dates = dates_of(start // 12, start % 12 + 1)
        self.assertEqual(found, [origin for origin in dates if reference.jump(origin, steps) == date], told)
        return found

    def assert_invalid(self, steps, date):
        with self.assertRaises(InvalidDate) as caught:
            origins(steps, date)
        self.assertIs(type(caught.exception), InvalidDate)
        self.assertEqual(caught.exception.value, date)

    def test_example_of_the_document(self):
        found = origins([1], (2023, 2, 28))
        self.assertEqual(found, [(2023, 1, 28), (2023, 1, 29), (2023, 1, 30), (2023, 1, 31)])

    def test_ordinary_dates(self):
        for steps, date, told in (
            ([], (2023, 1, 31), [(2023, 1, 31)]),
            ([], (2023, 2, 28), [(2023, 2, 28)]),
            ([0], (2024, 2, 29), [(2024, 2, 29)]),
            ([1], (2023, 2, 27), [(2023, 1, 27)]),
            ([1], (2024, 2, 29), [(2024, 1, 29), (2024, 1, 30), (2024, 1, 31)]),
            ([1], (2024, 2, 28), [(2024, 1, 28)]),
            ([1], (2023, 4, 30), [(2023, 3, 30), (2023, 3, 31)]),
            ([1], (2023, 3, 28), [(2023, 2, 28)]),
            ([1], (2023, 3, 29), []),
            ([1], (2024, 3, 29), [(2024, 2, 29)]),
            ([1], (2024, 3, 30), []),
            ([-1], (2023, 2, 28), [(2023, 3, 28), (2023, 3, 29), (2023, 3, 30), (2023, 3, 31)]),
            ([-1], (2023, 5, 31), []),
            ([-1], (2022, 12, 31), [(2023, 1, 31)]),
            ([1, -1], (2023, 1, 28), [(2023, 1, 28), (2023, 1, 29), (2023, 1, 30), (2023, 1, 31)]),
            ([1, -1], (2023, 1, 29), []),
            ([1, -1], (2023, 1, 31), []),
            ([12], (2025, 2, 28), [(2024, 2, 28), (2024, 2, 29)]),
            ([12], (2024, 2, 29), []),
            ([4800], (2400, 2, 29), [(2000, 2, 29)]),
            ([1200], (2100, 2, 28), [(2000, 2, 28), (2000, 2, 29)]),
            ([2400, 2400], (2400, 2, 29), []),
            ([13], (0, 2, 28), [(-1, 1, 28)]),
            ([1], (0, 1, 31), [(-1, 12, 31)]),
            ([-13], (-1, 2, 28), [(0, 3, 28), (0, 3, 29), (0, 3, 30), (0, 3, 31)]),
        ):
            self.assertEqual(self.assert_origins(steps, date), told, (steps, date))

    def test_against_all_dates_around(self):
        source = random.Random(41)
        for k in range(25):
            steps = [source.choice((1, -1, 2, 3, -5, 11, 12, -12, 13, 0)) for _ in range(k % 5)]
            year = source.choice(YEARS)
            found = {}
            for start in range(12 * year - 66, 12 * year + 78):
                for date in dates_of(start // 12, start % 12 + 1):
                    found.setdefault(reference.jump(date, steps), []).append(date)
            for month in range(1, 13):
                for date in dates_of(year, month):
                    self.assertEqual(origins(steps, date), found.get(date, []), (steps, date))

    def test_every_date_of_a_year(self):
        for steps in ([1], [-1], [12], [48], [1, 1], [1, -1], [12, -12], [48, -96], [2400, -1200], [5, 7, -13], [24]):
            for year in (1999, 2000, 2023, 2024, 2096, 2100, -1, 0, FAR):
                counts = 0
                for month in range(1, 13):
                    for date in dates_of(year, month):
                        counts += len(self.assert_origins(steps, date))
                self.assertIn(counts, (365, 366))

    def test_many_lists(self):
        source = random.Random(42)
        sizes = set()
        for _ in range(3000):
            steps = [source.choice(STEPS) for _ in range(source.randrange(7))]
            date = random_date(source, YEARS)
            if source.randrange(2):
                date = reference.jump(date, steps)
                self.assertNotEqual(origins(steps, date), [])
            sizes.add(len(self.assert_origins(steps, date)))
        self.assertEqual(sizes, {0, 1, 2, 3, 4})

    def test_great_numbers(self):
        source = random.Random(43)
        for _ in range(300):
            steps = [
                source.choice((source.randint(-FAR, FAR), FAR, -FAR, 1, -1200))
                for _ in range(source.choice((1, 2, 60)))
            ]
            date = random_date(source, (0, FAR, -FAR, 10 ** 29 + 100))
            self.assert_origins(steps, date)
            after = reference.stride(date, steps)
            self.assertIn(date, self.assert_origins(steps, after))
            self.assertEqual(move(date, steps), after)
        # 10 ** 30 leaves 4 modulo 12.
        year = FAR + 60 * FAR // 12
        self.assertEqual(origins([FAR] * 60, (year, 12, 30)), [(FAR, 12, 30), (FAR, 12, 31)])
        self.assertEqual(origins([FAR] * 60, (year, 12, 31)), [])

    def test_dates_that_do_not_exist(self):
        for date in WRONG_DATES:
            for steps in ([], [0], [1], [-1, 12], [4800, -4800], [FAR] * 60):
                self.assert_invalid(steps, date)

    def test_dates_without_an_origin_raise_nothing(self):
        for year in (0, 1900, 2000, 2023, 2024, -1, -4, FAR):
            for month in range(1, 13):
                last = reference.length(year, month)
                for steps in ([], [1], [1, -1], [-12], [FAR], list(range(-5, 60))):
                    for day in (1, 28, last):
                        self.assert_origins(steps, (year, month, day))
                self.assert_invalid([1], (year, month, last + 1))
                self.assert_invalid([1], (year, month, 0))

    def test_the_list_is_new_and_the_arguments_are_left_alone(self):
        for steps, date in (([1], (2023, 2, 28)), ([], (2023, 1, 31)), ([1], (2023, 3, 31))):
            before = list(steps)
            found = origins(steps=steps, date=date)
            told = list(found)
            again = origins(date=date, steps=steps)
            self.assertIsNot(found, again)
            again.append((0, 1, 1))
            self.assertEqual(found, told)
            self.assertEqual(origins(steps, date), told)
            self.assertEqual(steps, before)
        steps = [1]
        found = origins(steps, (2023, 3, 28))
        steps[0] = 2
        steps.append(5)
        self.assertEqual(found, [(2023, 2, 28)])
        with self.assertRaises(InvalidDate):
            origins(steps, (2023, 2, 29))
        self.assertEqual(steps, [2, 5])

    def test_returned_lists_and_dates_may_be_passed_on(self):
        long = visits([k * k for k in range(5000)])
        date = move((2024, 1, 31), long)
        found = self.assert_origins(long, date)
        self.assertIn((2024, 1, 31), found)
        for origin in found:
            self.assertIn(origin, origins(long, move(origin, long)))
            self.assert_origins(visits(long), origin)


class UncutDatesTest(unittest.TestCase):
    def assert_uncut(self, steps):
        """Hold the number against the smallest lengths at all 4800 months, which are the days that are kept."""
        number = uncut_dates(steps)
        self.assertIs(type(number), int, steps)
        self.assertEqual(number, sum(reference.smallest_lengths(steps)), steps)
        return number

    def test_example_of_the_document(self):
        self.assertEqual([uncut_dates([]), uncut_dates([4800]), uncut_dates([12])], [146097, 146097, 146000])

    def test_against_a_count_over_all_dates_of_400_years(self):
        dates = [(start // 12, start % 12 + 1) for start in range(CYCLE)]
        dates = [date for year, month in dates for date in dates_of(year, month)]
        self.assertEqual(len(dates), 146097)
        for steps in ([], [1], [-1], [12, 36], [48], [1200], [6], [3, 48], [1, 1, 1, 1], [2400, -2400, 5], [4801]):
            kept = sum(move(date, steps)[2] == date[2] for date in dates)
            self.assertEqual(uncut_dates(steps), kept, steps)

    def test_ordinary_lists(self):
        for steps, cut in (
            ([0], 0), ([4800, -4800], 0), ([-4800 * 7], 0),
            # 29 February of the 97 leap years; four years before or after three centuries; of year 0.
            ([12], 97), ([12, -12], 97), ([24, -36], 97), ([48], 3), ([-48], 3), ([1200], 1), ([2400, 1200], 1),
            # From 31 January to February; from four months of 31 days to the next one.
            ([1], 400 * 3 - 97 + 4 * 400), ([-1], 400 * 3 - 97 + 4 * 400), ([12, 1], 400 * 3 - 97 + 4 * 400 + 97),
            # Each month is cut to February's length, which is 29 in 97 years from all months but February itself.
            ([1] * 12, 146097 - 400 * 12 * 28 - 11 * 97), ([1] * 24, 146097 - 400 * 12 * 28),
        ):
            self.assertEqual(self.assert_uncut(steps), 146097 - cut, steps)

    def test_every_single_step(self):
        for step in range(-60, 61):
            self.assert_uncut([step])
            self.assert_uncut([step, step])

    def test_lists_against_the_lengths_of_4800_months(self):
        lists = lists_for_comparison()
        source = random.Random(44)
        for _ in range(300):
            lists.append([source.choice(STEPS) for _ in range(source.randrange(7))])
        numbers = {self.assert_uncut(steps) for steps in lists}
        self.assertGreater(len(numbers), 60)

    def test_years_of_all_25_remainders(self):
        for month in (0, 1, 7):
            both = [place(0, q, month) for q in range(50)]
            for many in (1, 24, 25, 26, 49, 50):
                self.assert_uncut(through(both[:many] + [0]))

    def test_great_numbers(self):
        cycle = 4800 * 10 ** 26
        self.assertEqual(uncut_dates([cycle, -cycle]), 146097)
        self.assertEqual(uncut_dates([cycle + 12]), 146000)
        self.assertEqual(uncut_dates([-cycle - 1]), uncut_dates([-1]))
        source = random.Random(45)
        for _ in range(60):
            steps = [source.choice((source.randint(-FAR, FAR), FAR, -FAR)) for _ in range(source.choice((1, 2, 60)))]
            self.assert_uncut(steps)

    def test_lists_with_the_same_effect(self):
        for steps in lists_for_comparison()[::5]:
            self.assertEqual(uncut_dates(shortest_list(steps)), uncut_dates(steps), steps)

    def test_the_argument_is_left_alone_and_passed_by_name(self):
        steps = [1, -13, 48]
        self.assertEqual(uncut_dates(steps=steps), self.assert_uncut(steps))
        self.assertEqual(steps, [1, -13, 48])

    def test_returned_lists_may_be_passed_on(self):
        long = visits([k * k for k in range(5000)])
        self.assert_uncut(long)
        self.assert_uncut(normal_form(long)[1])


if __name__ == "__main__":
    unittest.main()
