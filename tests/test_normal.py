"""Tests of points [2], [7], [8], [9] and [10]: normal_form, same_effect and commute."""

import random
import unittest

import reference
from monthclamp.normal import commute, normal_form, same_effect
from monthclamp.steps import move, visits
from reference import through
from samples import FAR, STEPS, lists_for_comparison, place


def forms(*places):
    """Return the visits of the normal form of a list that visits these places."""
    return normal_form(through(places))[1]


class NormalFormTest(unittest.TestCase):
    def test_example_of_the_document(self):
        answers = [
            normal_form([]), normal_form([24, -24]), normal_form([-48, 48]), normal_form([2400, -2400]),
            normal_form([13]),
        ]
        told = [(0, [0]), (0, [0, 12]), (0, [0, 4752]), (0, [0, 1200]), (13, [0, 13])]
        self.assertEqual(answers, told)

    def test_kinds_of_the_answer(self):
        for steps in ([], [1], [24, -24], [5, 12], [2400, -2400], [FAR]):
            found = normal_form(steps)
            self.assertIs(type(found), tuple)
            self.assertEqual(len(found), 2)
            self.assertIs(type(found[0]), int)
            self.assertIs(type(found[1]), list)

    def test_years_that_differ_by_a_number_that_4_does_not_divide(self):
        for years in (1, 2, 3, 5, 6, 7, 25, 50, 99, 101, 397, 398, 399, 401):
            for sign in (1, -1):
                self.assertEqual(forms(12 * sign * years), [0, 12], sign * years)
                self.assertEqual(forms(7, 7 + 12 * sign * years), [0, 7, 19], sign * years)
        self.assertEqual(forms(place(0, 1), place(0, 2), place(1, 0)), [0, 12])
        self.assertEqual(forms(place(3, 5, 4), place(3, 9, 4), place(2, 5, 4)), [0, 4, 16])

    def test_a_visit_alone_at_its_month(self):
        for r in range(1, 12):
            for a in range(4):
                for q in (0, 1, 24, 25, 26, 50, 99):
                    for cycles in (0, 1, 7, -1, -10 ** 26):
                        told = [0, place(a, q, r)]
                        self.assertEqual(forms(place(a, q + 100 * cycles, r)), told, (a, q, r, cycles))

    def test_all_equal_modulo_100(self):
        self.assertEqual(normal_form([4800]), (4800, [0]))
        self.assertEqual(normal_form([-4800]), (-4800, [0]))
        self.assertEqual(normal_form([4800, 4800, -14400]), (-4800, [0]))
        self.assertEqual(normal_form([-4800 * 10 ** 26]), (-4800 * 10 ** 26, [0]))
        self.assertEqual(forms(place(2, 3, 5), place(2, 103, 5), place(2, -97, 5)), [0, place(2, 3, 5)])
        self.assertEqual(forms(place(0, 100), place(0, 7), place(0, 207)), [0, place(0, 7)])

    def test_two_not_equal_modulo_100(self):
        for centuries in (1, 2, 3, 5, 6, 7, -1, -2, -3, -401, 402):
            self.assertEqual(forms(1200 * centuries), [0, 1200], centuries)
            for a, q, r in ((0, 1, 0), (0, 24, 0)):
                found = forms(place(a, q, r), place(a, q + 25 * centuries, r))
                self.assertEqual(found, [0, place(a, q, r), place(a, q + 25, r)], (centuries, a, q, r))
            for a, q, r in ((0, 1, 1), (3, 0, 11), (2, 24, 6), (1, 13, 3)):
                found = forms(place(a, q + 50, r), place(a, q + 50 + 25 * centuries, r))
                self.assertEqual(found, [0, place(a, q, r), place(a, q + 25, r)], (centuries, a, q, r))
        self.assertEqual(forms(1200, 2400, 3600), [0, 1200])
        self.assertEqual(forms(place(1, 50, 2), place(1, 75, 2), place(1, 175, 2)), [0, 14, place(1, 25, 2)])

    def test_remainders_with_one_number_and_with_two(self):
        found = forms(place(0, 25), place(0, 76), place(0, 126), place(0, 52), place(0, 152))
        self.assertEqual(found, [0, place(0, 1), place(0, 25), place(0, 26), place(0, 52)])
        found = forms(place(3, 99, 9), place(3, 74, 9), place(3, 98, 9))
        self.assertEqual(found, [0, place(3, 24, 9), place(3, 49, 9), place(3, 98, 9)])

    def test_all_25_remainders_with_one_number_each(self):
        places = [place(0, q) for q in range(25)]
        self.assertEqual(forms(*places), places)
        places = [place(2, q, 8) for q in range(75, 100)]
        self.assertEqual(forms(*places), [0] + places)

    def test_all_25_remainders_with_two_numbers_each(self):
        self.assertEqual(forms(*[place(0, q) for q in range(50)]), [0, 12])
        self.assertEqual(forms(*[place(0, -q) for q in range(50)]), [0, 12])
        self.assertEqual(forms(*[place(3, 50 + q, 10) for q in range(50)]), [0, 10, 22])
        self.assertEqual(forms(*[place(1, q * 101, 4) for q in range(50)]), [0, 4, 16])
        self.assertEqual(forms(*[place(0, q) for q in range(100)]), [0, 12])

    def test_24_remainders_with_two_numbers_and_one_with_one(self):
        for left_out in (25, 37, 49):
            places = [place(0, q) for q in range(50) if q != left_out]
            self.assertEqual(forms(*places), places)
            again = [place(0, left_out - 25 + 100 * k) for k in (1, 2, -1)]
            self.assertEqual(forms(*places, *again), places)
            self.assertEqual(forms(*places, place(0, left_out + 50)), [0, 12])

    def test_24_remainders_with_two_numbers_and_one_missing(self):
        places = [0] + [place(0, q) for q in range(1, 50) if q % 25 != 7]
        self.assertEqual(forms(*places), places)

    def test_negative_visits(self):
        self.assertEqual(normal_form([-1]), (-1, [0, 4799]))
        self.assertEqual(normal_form([-12]), (-12, [0, 12]))
        self.assertEqual(normal_form([-13]), (-13, [0, 4787]))
        self.assertEqual(normal_form([-48]), (-48, [0, 4752]))
        self.assertEqual(normal_form([-1200]), (-1200, [0, 1200]))
        self.assertEqual(normal_form([-1, -4799]), (-4800, [0, 4799]))
        self.assertEqual(normal_form([-1, 12]), (11, [0, 11, 23]))

    def test_several_months(self):
        self.assertEqual(normal_form([1] * 12), (12, list(range(13))))
        self.assertEqual(normal_form([1] * 24), (24, list(range(24))))
        self.assertEqual(normal_form([5, 48, 7, 1195]), (1255, [0, 5, 12, 53, 1255]))
        self.assertEqual(normal_form([3, 4800, 1200, -6000]), (3, [0, 3, 1203]))

    def test_long_lists(self):
        places = sorted([place(0, q, r) for q in range(25) for r in range(12)])
        self.assertEqual(forms(*places), places)
        self.assertEqual(forms(*[p + 4800 * k for k in (2, -1) for p in places]), places)
        self.assertEqual(normal_form([1] * 4800), (4800, list(range(24))))

    def test_the_total_need_not_be_among_the_visits(self):
        total, found = normal_form([4801])
        self.assertEqual((total, found), (4801, [0, 1]))

    def test_great_numbers(self):
        # 10 ** 30 leaves 1600 modulo 4800 and 4 modulo 12.
        self.assertEqual(normal_form([FAR]), (FAR, [0, 1600]))
        self.assertEqual(normal_form([-FAR]), (-FAR, [0, 3200]))
        self.assertEqual(normal_form([FAR] * 60)[0], 60 * FAR)
        self.assertEqual(normal_form([FAR] * 60)[1], normal_form([1600] * 60)[1])

    def test_ascending_and_with_0(self):
        source = random.Random(9)
        for _ in range(500):
            steps = [source.choice(STEPS + [source.randint(-FAR, FAR)]) for _ in range(source.randrange(61))]
            total, found = normal_form(steps)
            self.assertEqual(total, sum(steps))
            self.assertEqual(found, sorted(set(found)))
            self.assertEqual(found[0], 0)
            self.assertLess(found[-1], reference.CYCLE)

    def test_a_list_through_the_normal_visits_has_the_same_normal_visits(self):
        source = random.Random(10)
        for _ in range(300):
            steps = [source.choice(STEPS) for _ in range(source.randrange(20))]
            total, found = normal_form(steps)
            again = through(found + [total])
            self.assertEqual(normal_form(again)[0], total)
            self.assertEqual(normal_form(again)[1], found)

    def test_the_list_is_new_and_the_argument_is_left_alone(self):
        for steps in ([], [24, -24], [2400, -2400], [7, 12], [1, 5, 48]):
            before = list(steps)
            found = normal_form(steps=steps)
            told = (found[0], list(found[1]))
            again = normal_form(steps)
            again[1].append(99)
            again[1][0] = -99
            self.assertEqual(found, told)
            self.assertEqual(normal_form(steps), told)
            self.assertEqual(steps, before)

    def test_returned_lists_may_be_passed_on(self):
        source = random.Random(11)
        steps = [source.randint(-FAR, FAR) for _ in range(60)]
        long = normal_form([k * k for k in range(5000)])[1]
        for _ in range(3):
            steps = normal_form(visits(steps))[1]
            long = normal_form(long)[1]
        self.assertEqual(normal_form(long)[0], sum(long))
        self.assertEqual(move((2024, 1, 31), long), reference.stride((2024, 1, 31), long))
        self.assertTrue(same_effect(long + steps, long + steps))
        self.assertIn(commute(long, steps), (True, False))


class SameEffectTest(unittest.TestCase):
    def test_example_of_the_document(self):
        answers = [
            same_effect([1, 2, -3], [3, -2, -1]), same_effect([4800, -4800], []), commute([1], [2]),
            commute([1], [1, 1]),
        ]
        self.assertEqual(answers, [True, True, False, True])

    def test_all_pairs_against_the_lengths_of_4800_months(self):
        lists = lists_for_comparison()
        effects = [reference.effect(steps) for steps in lists]
        normal = [normal_form(steps) for steps in lists]
        same = 0
        for k, first in enumerate(lists):
            for j, second in enumerate(lists):
                equal = effects[k] == effects[j]
                same += equal and first != second
                self.assertEqual(normal[k] == normal[j], equal, (first, second))
                self.assertIs(same_effect(first, second), equal, (first, second))
        self.assertGreater(same, 300)

    def test_many_lists_against_the_lengths_of_4800_months(self):
        source = random.Random(13)
        effects_of = {}
        forms_of = {}
        for _ in range(1500):
            steps = [source.choice(STEPS) for _ in range(source.randrange(1, 5))]
            total, found = normal_form(steps)
            form = (total, tuple(found))
            effect = reference.effect(steps)
            self.assertEqual(effects_of.setdefault(form, effect), effect, steps)
            self.assertEqual(forms_of.setdefault(effect, form), form, steps)
        self.assertEqual(len(effects_of), len(forms_of))

    def test_against_dates(self):
        source = random.Random(14)
        starts = [(year, month, reference.length(year, month)) for year in range(400) for month in range(1, 13)]
        for _ in range(20):
            first = [source.choice((12, -12, 24, 1200, -1200, 48, -48)) for _ in range(3)]
            second = first[::-1]
            equal = all(move(date, first) == move(date, second) for date in starts)
            self.assertIs(same_effect(first, second), equal, (first, second))

    def test_great_numbers(self):
        cycle = 4800 * 10 ** 26
        self.assertIs(same_effect([cycle, -cycle], []), True)
        self.assertIs(same_effect([cycle + 1], [1, cycle]), True)
        self.assertIs(same_effect([cycle + 1200], [1200, cycle]), True)
        self.assertIs(same_effect([cycle + 48, -cycle], [48]), True)
        self.assertIs(same_effect([cycle], [-cycle]), False)
        self.assertIs(same_effect([cycle + 12, -cycle], [24, -12]), True)
        self.assertIs(same_effect([FAR] * 60, [FAR] * 60), True)
        self.assertIs(same_effect([FAR] * 60, [-FAR] * 60), False)

    def test_arguments_are_left_alone_and_passed_by_name(self):
        first, second = [1, 2, -3], [3, -2, -1]
        self.assertIs(same_effect(first=first, second=second), True)
        self.assertIs(same_effect(second=[1], first=[2]), False)
        self.assertEqual((first, second), ([1, 2, -3], [3, -2, -1]))


class CommuteTest(unittest.TestCase):
    def test_ordinary_lists(self):
        for first, second, told in (
            ([], [], True), ([], [1, 2], True), ([5], [5], True), ([1], [2], False), ([12], [24], True),
            ([48], [96], False), ([48], [48, 48], True), ([1], [-1], False), ([12], [-12], True),
            ([48], [-48], False), ([1200], [-1200], True), ([4800], [1], True), ([4800], [48], True),
            ([1, 2], [2, 1], False), ([0], [7], True), ([1] * 11, [1], True),
        ):
            self.assertIs(commute(first, second), told, (first, second))
            self.assertIs(commute(second, first), told, (second, first))

    def test_against_the_lengths_of_4800_months_in_both_orders(self):
        source = random.Random(15)
        answers = {True: 0, False: 0}
        for _ in range(250):
            pool = source.choice(((12, 24, 36, -12), (1200, -1200, 2400, 4800, -4800), (1, 2, 48, -48), STEPS))
            first = [source.choice(pool) for _ in range(source.randrange(4))]
            second = [source.choice(pool) for _ in range(source.randrange(1, 4))]
            told = reference.effect(first + second) == reference.effect(second + first)
            answers[told] += 1
            self.assertIs(commute(first, second), told, (first, second))
            self.assertIs(commute(second, first), told, (second, first))
        self.assertGreater(min(answers.values()), 50)

    def test_great_numbers(self):
        cycle = 4800 * 10 ** 26
        self.assertIs(commute([cycle], [5, 7]), True)
        self.assertIs(commute([cycle + 1], [2]), False)
        self.assertIs(commute([FAR] * 30, [FAR] * 30), True)
        # FAR leaves 1600 modulo 4800: three such steps visit all that more of them visit.
        self.assertIs(commute([FAR] * 30, [-FAR] * 30), True)
        self.assertIs(commute([FAR], [-FAR]), False)

    def test_arguments_are_left_alone_and_passed_by_name(self):
        first, second = [1], [1, 1]
        self.assertIs(commute(first=first, second=second), True)
        self.assertIs(commute(second=second, first=[2]), False)
        self.assertEqual((first, second), ([1], [1, 1]))


if __name__ == "__main__":
    unittest.main()
