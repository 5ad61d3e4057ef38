"""Tests of points [2] to [6]: renew, anchored, renewal_dates and first_difference."""

import random
import unittest
from itertools import islice

import reference
from monthclamp.errors import InvalidDate, InvalidNumber
from monthclamp.renewals import anchored, first_difference, renew, renewal_dates
from monthclamp.steps import move
from reference import CYCLE, LENGTHS
from samples import FAR, STEPS, WRONG_DATES, random_date

YEARS = (0, 100, 400, 1900, 2000, 2024, -100, -2000)

# The sizes at which a cycle of repetitions begins and ends.
TIMES = (0, 1, 2, 3, 5, 12, 100, 399, 400, 401, 4799, 4800, 4801, 9600, 14401)


def random_step(source):
    """Return a step: one of the years and months that matter, or any one."""
    return source.choice((source.choice(STEPS), source.randint(-60, 60), source.randint(-5000, 5000)))


def renewed(date, step, times):
    """Return the date after all repetitions, by the lengths of all months that they can come to."""
    year, month, day = date
    place = 12 * year + month - 1
    lengths = [LENGTHS[(place + k * step) % CYCLE] for k in range(min(times, CYCLE) + 1)]
    place += step * times
    return (place // 12, place % 12 + 1, min([day] + lengths))


def difference(date, step, most):
    """Go through the repetitions; return the first one with another date than a single step, or None."""
    after = date
    for times in range(1, most + 1):
        after = reference.jump(after, [step])
        if after != reference.jump(date, [step * times]):
            return times
    return None


class RenewTest(unittest.TestCase):
    def assert_renewed(self, date, step, times):
        told = (date, step, times)
        found = renew(date, step, times)
        self.assertIs(type(found), tuple, told)
        self.assertEqual([type(number) for number in found], [int, int, int], told)
        self.assertEqual(found, renewed(date, step, times), told)

    def test_example_of_the_document(self):
        answers = [
            renew((2023, 8, 31), 1, 10 ** 20 * 12), anchored((2023, 8, 31), 1, 10 ** 20 * 12),
            first_difference((2023, 8, 31), 1),
        ]
        self.assertEqual(answers, [(100000000000000002023, 8, 28), (100000000000000002023, 8, 31), 2])

    def test_ordinary_repetitions(self):
        for date, step, times, told in (
            ((2023, 1, 31), 1, 0, (2023, 1, 31)),
            ((2023, 1, 31), 1, 1, (2023, 2, 28)),
            ((2023, 1, 31), 1, 2, (2023, 3, 28)),
            ((2023, 1, 31), 2, 1, (2023, 3, 31)),
            ((2023, 1, 31), 2, 6, (2024, 1, 30)),
            ((2023, 12, 31), 2, 6, (2024, 12, 29)),
            ((2024, 1, 31), 1, 12, (2025, 1, 29)),
            ((2024, 1, 31), 1, 13, (2025, 2, 28)),
            ((2024, 2, 29), 12, 1, (2025, 2, 28)),
            ((2024, 2, 29), 12, 4, (2028, 2, 28)),
            ((2024, 2, 29), 48, 18, (2096, 2, 29)),
            ((2024, 2, 29), 48, 20, (2104, 2, 28)),
            ((2000, 2, 29), 4800, 10 ** 29, (2000 + 400 * 10 ** 29, 2, 29)),
            ((2000, 2, 29), 1200, 4, (2400, 2, 28)),
            ((2023, 3, 31), -1, 1, (2023, 2, 28)),
            ((2023, 3, 31), -1, 2, (2023, 1, 28)),
            ((0, 1, 31), -1, 1, (-1, 12, 31)),
            ((2023, 8, 31), 12, 10 ** 29, (2023 + 10 ** 29, 8, 31)),
            ((2023, 8, 31), 0, FAR - 1, (2023, 8, 31)),
        ):
            self.assertEqual(renew(date, step, times), told, (date, step, times))

    def test_against_moving_step_by_step(self):
        source = random.Random(51)
        for _ in range(150):
            date = random_date(source, YEARS)
            step = random_step(source)
            after = date
            for times in range(60):
                self.assertEqual(renew(date, step, times), after, (date, step, times))
                after = reference.jump(after, [step])

    def test_against_moving_step_by_step_through_several_cycles(self):
        for date, step in (
            ((2000, 2, 29), 4799), ((2023, 1, 31), 1), ((2023, 1, 28), 1), ((1999, 3, 31), -1), ((2000, 2, 29), 48),
            ((-1, 12, 31), 12), ((2000, 2, 29), 11 * 48), ((2258, 10, 29), 4304), ((0, 5, 30), 4801), ((5, 1, 31), 0),
            ((2001, 8, 30), 7),
        ):
            after = date
            for times in range(3 * CYCLE + 2):
                if times in TIMES or times % 1000 == 999 or times % CYCLE < 3 or times % CYCLE > CYCLE - 3:
                    self.assertEqual(renew(date, step, times), after, (date, step, times))
                after = reference.jump(after, [step])

    def test_every_number_of_repetitions_around_a_cycle(self):
        for date, step in (((2000, 2, 29), 4812), ((2023, 12, 31), 1)):
            for times in [*range(10), *range(CYCLE - 5, CYCLE + 6), *range(2 * CYCLE - 2, 2 * CYCLE + 3)]:
                self.assertEqual(renew(date, step, times), reference.jump(date, [step] * times))

    def test_many(self):
        source = random.Random(52)
        for _ in range(400):
            times = source.choice((source.choice(TIMES), source.randrange(5000), source.randrange(FAR)))
            self.assert_renewed(random_date(source, YEARS), random_step(source), times)

    def test_great_numbers(self):
        source = random.Random(53)
        for _ in range(200):
            date = random_date(source, (FAR - 5, 5 - FAR, 0))
            step = source.choice((FAR, -FAR, FAR - 1, 1 - FAR, source.randint(-FAR, FAR), 1, 0, 4800 * 10 ** 26))
            times = source.choice((FAR - 1, FAR, 10 ** 29, source.randrange(FAR), 1, 0, 4800))
            self.assert_renewed(date, step, times)
        # (10 ** 30 - 1) ** 2 leaves 9 modulo 12, and 10 ** 30 - 1 leaves 3.
        self.assertEqual(renew((0, 1, 31), FAR - 1, FAR - 1), ((FAR - 1) ** 2 // 12, 10, 30))
        # 10 ** 30 leaves 1600 modulo 4800: from February to June and October.
        self.assertEqual(renew((0, 2, 29), FAR, 10 ** 29), (FAR * 10 ** 29 // 12, 6, 29))

    def test_arguments_by_name(self):
        self.assertEqual(renew(times=2, step=1, date=(2023, 1, 31)), (2023, 3, 28))
        self.assertEqual(anchored(times=2, step=1, date=(2023, 1, 31)), (2023, 3, 31))
        self.assertEqual(first_difference(step=1, date=(2023, 1, 31)), 2)
        self.assertEqual(list(islice(renewal_dates(step=12, date=(2024, 2, 29)), 2)), [(2024, 2, 29), (2025, 2, 28)])

    def test_returned_dates_may_be_passed_on(self):
        date = (2024, 1, 31)
        for _ in range(5):
            date = renew(date, FAR - 1, FAR - 1)
        self.assert_renewed(date, 1, 10 ** 29)
        self.assertEqual(anchored(date, 0, 7), date)
        self.assertEqual(next(renewal_dates(date, FAR)), date)
        self.assertEqual(first_difference(date, 0), None)


class AnchoredTest(unittest.TestCase):
    def test_ordinary_repetitions(self):
        for date, step, times, told in (
            ((2023, 1, 31), 1, 0, (2023, 1, 31)),
            ((2023, 1, 31), 1, 1, (2023, 2, 28)),
            ((2023, 1, 31), 1, 2, (2023, 3, 31)),
            ((2023, 1, 31), 1, 13, (2024, 2, 29)),
            ((2024, 2, 29), 12, 3, (2027, 2, 28)),
            ((2024, 2, 29), 12, 4, (2028, 2, 29)),
            ((2000, 2, 29), 1200, 4, (2400, 2, 29)),
            ((2023, 3, 31), -1, 2, (2023, 1, 31)),
            ((2023, 8, 31), 0, FAR - 1, (2023, 8, 31)),
            ((2023, 1, 31), FAR, FAR - 1, (2023 + FAR * (FAR - 1) // 12, FAR * (FAR - 1) % 12 + 1, 31)),
        ):
            found = anchored(date, step, times)
            self.assertIs(type(found), tuple)
            self.assertEqual(found, told, (date, step, times))

    def test_against_one_single_step(self):
        source = random.Random(54)
        for _ in range(1500):
            date = random_date(source, YEARS + (FAR, -FAR))
            step = source.choice((random_step(source), source.randint(-FAR, FAR)))
            times = source.choice((source.choice(TIMES), source.randrange(5000), source.randrange(FAR)))
            found = anchored(date, step, times)
            self.assertEqual(found, move(date, [step * times]), (date, step, times))
            self.assertEqual(found, reference.stride(date, [step * times]), (date, step, times))


class ErrorsTest(unittest.TestCase):
    def assert_raises(self, kind, value, call, *arguments):
        with self.assertRaises(kind) as caught:
            call(*arguments)
        self.assertIs(type(caught.exception), kind)
        self.assertEqual(caught.exception.value, value)

    def test_dates_that_do_not_exist(self):
        for date in WRONG_DATES:
            for call in (renew, anchored):
                for step, times in ((1, 0), (0, 0), (1, 1), (12, 3), (FAR, FAR - 1), (-1, 4801)):
                    self.assert_raises(InvalidDate, date, call, date, step, times)
            for step in (0, 1, -12, 4800, FAR):
                self.assert_raises(InvalidDate, date, first_difference, date, step)
                self.assert_raises(InvalidDate, date, lambda: next(renewal_dates(date, step)))

    def test_negative_numbers_of_repetitions(self):
        for times in (-1, -2, -4800, -FAR):
            for call in (renew, anchored):
                for step in (0, 1, -1, 4800, FAR):
                    self.assert_raises(InvalidNumber, times, call, (2023, 1, 31), step, times)
                    self.assert_raises(InvalidNumber, times, call, (2024, 2, 29), step, times)

    def test_the_date_is_checked_first(self):
        for times in (-1, -FAR):
            for date in WRONG_DATES:
                for call in (renew, anchored):
                    self.assert_raises(InvalidDate, date, call, date, 1, times)

    def test_valid_arguments_raise_nothing(self):
        for date in ((2024, 2, 29), (0, 1, 1), (-1, 12, 31), (FAR, 4, 30), (2000, 2, 29), (1900, 2, 28)):
            for step in (0, 1, -1, 12, -4800, FAR, -FAR):
                for times in (0, 1, CYCLE, FAR - 1, FAR, 10 ** 40):
                    renew(date, step, times)
                    anchored(date, step, times)
                first_difference(date, step)
                self.assertEqual(next(renewal_dates(date, step)), date)


class RenewalDatesTest(unittest.TestCase):
    def test_the_date_itself_and_then_the_dates_after_each_repetition(self):
        found = list(islice(renewal_dates((2024, 1, 31), 1), 4))
        self.assertEqual(found, [(2024, 1, 31), (2024, 2, 29), (2024, 3, 29), (2024, 4, 29)])
        found = list(islice(renewal_dates((2024, 2, 29), -12), 3))
        self.assertEqual(found, [(2024, 2, 29), (2023, 2, 28), (2022, 2, 28)])
        self.assertEqual(list(islice(renewal_dates((2024, 2, 29), 0), 50)), [(2024, 2, 29)] * 50)

    def test_against_moving_step_by_step(self):
        source = random.Random(55)
        for _ in range(150):
            date = random_date(source, YEARS + (FAR, -FAR))
            step = source.choice((random_step(source), source.randint(-FAR, FAR)))
            after = date
            for found in islice(renewal_dates(date, step), 80):
                self.assertIs(type(found), tuple)
                self.assertEqual(found, after, (date, step))
                after = reference.jump(after, [step])

    def test_without_end(self):
        date, step = (2000, 2, 29), 4799
        after = date
        for found in islice(renewal_dates(date, step), 3 * CYCLE):
            self.assertEqual(found, after)
            after = reference.jump(after, [step])

    def test_each_call_begins_anew(self):
        first = list(islice(renewal_dates((2023, 8, 31), 1), 10))
        self.assertEqual(first[0], (2023, 8, 31))
        self.assertEqual(list(islice(renewal_dates((2023, 8, 31), 1), 10)), first)

    def test_side_by_side(self):
        first, second = renewal_dates((2023, 1, 31), 1), renewal_dates((2023, 1, 31), 1)
        other = renewal_dates((2000, 2, 29), -12)
        self.assertEqual(next(first), (2023, 1, 31))
        self.assertEqual(next(first), (2023, 2, 28))
        self.assertEqual(next(second), (2023, 1, 31))
        self.assertEqual(next(other), (2000, 2, 29))
        self.assertEqual(next(first), (2023, 3, 28))
        self.assertEqual(next(second), (2023, 2, 28))
        self.assertEqual(next(other), (1999, 2, 28))
        for k, (one, two) in enumerate(islice(zip(first, second), 40)):
            self.assertEqual(one, reference.jump((2023, 1, 31), [1] * (k + 3)))
            self.assertEqual(two, reference.jump((2023, 1, 31), [1] * (k + 2)))


class FirstDifferenceTest(unittest.TestCase):
    def test_ordinary_dates(self):
        for date, step, told in (
            ((2023, 8, 31), 1, 2), ((2023, 1, 31), 1, 2), ((2023, 1, 31), 2, 6), ((2023, 1, 30), 1, 2),
            ((2024, 1, 29), 1, 14), ((2023, 1, 29), 1, 2), ((2023, 1, 28), 1, None), ((2024, 2, 29), 12, 4),
            ((2024, 2, 29), 24, 2), ((2024, 2, 29), 48, 20), ((2096, 2, 29), 48, 2), ((2000, 2, 29), 1200, 4),
            ((2004, 2, 29), 1200, None), ((2000, 2, 29), 4800, None), ((2023, 8, 31), 12, None),
            ((2023, 12, 31), 0, None), ((2023, 3, 31), -1, 2), ((2023, 5, 31), 12 * 7, None), ((2000, 2, 29), 2400, 2),
            ((2023, 3, 31), 4799, 2),
        ):
            self.assertEqual(first_difference(date, step), told, (date, step))

    def test_against_going_through_the_repetitions(self):
        source = random.Random(56)
        nones = 0
        for _ in range(200):
            date = random_date(source, YEARS)
            step = random_step(source)
            told = difference(date, step, 2 * CYCLE)
            nones += told is None
            self.assertEqual(first_difference(date, step), told, (date, step))
        self.assertGreater(nones, 20)
        self.assertLess(nones, 180)

    def test_leap_days(self):
        found = {}
        for century in (0, 1, 2, 3):
            for year in range(100 * century, 100 * century + 100, 20):
                if reference.length(year, 2) == 29:
                    for fours in (1, 2, 3, 4, 5, 7, 9, 11, 24, 25, 26, 33, 49, 50, 51, 75, 99, 100, 101, -1, -2, -13):
                        date = (year, 2, 29)
                        told = difference(date, 48 * fours, 300)
                        self.assertEqual(first_difference(date, 48 * fours), told, (date, fours))
                        found[told] = date
        self.assertGreater(max(told for told in found if told is not None), 45)
        self.assertIn(None, found)

    def test_the_first_difference_after_very_many_repetitions(self):
        for date, step, told in (
            ((2004, 2, 29), 48, 25), ((2304, 2, 29), 48, 50), ((304, 2, 29), 48, 50),
            ((258, 10, 29), 4304, 150), ((2258, 10, 29), 4304, 150),
            ((258 - 800, 10, 29), 4304 + 4800 * 10 ** 26, 150), ((258 + 400 * 10 ** 27, 10, 29), 4304 - 9600, 150),
        ):
            self.assertEqual(first_difference(date, step), difference(date, step, 2 * CYCLE), (date, step))
            self.assertEqual(first_difference(date, step), told, (date, step))
            self.assertNotEqual(renew(date, step, told), anchored(date, step, told))
            self.assertEqual(renew(date, step, told - 1), anchored(date, step, told - 1))

    def test_renew_and_anchored_differ_there_for_the_first_time(self):
        source = random.Random(57)
        found = 0
        for _ in range(150):
            date = random_date(source, YEARS + (FAR, -FAR))
            step = source.choice((random_step(source), source.randint(-FAR, FAR), FAR, -FAR))
            told = first_difference(date, step)
            if told is None:
                for times in list(range(30)) + [4799, 4800, 10 ** 29, source.randrange(FAR)]:
                    self.assertEqual(renew(date, step, times), anchored(date, step, times), (date, step, times))
            else:
                found += 1
                self.assertIs(type(told), int)
                self.assertNotEqual(renew(date, step, told), anchored(date, step, told), (date, step))
                for times in range(told):
                    self.assertEqual(renew(date, step, times), anchored(date, step, times), (date, step, times))
        self.assertGreater(found, 30)


if __name__ == "__main__":
    unittest.main()
