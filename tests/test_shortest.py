"""Tests of points [6] and [8]: fewest_steps and shortest_list."""

import random
import unittest
from itertools import combinations_with_replacement, product

import reference
from monthclamp.normal import normal_form, same_effect
from monthclamp.shortest import fewest_steps, shortest_list
from monthclamp.steps import visits
from reference import CYCLE, LENGTHS, through
from samples import FAR, STEPS, lists_for_comparison, place


def short_months():
    """Return a number for each month of a cycle: its bits are the months that a visit there makes short."""
    numbers = []
    for length in (28, 29, 30):
        bits = sum(1 << k for k in range(CYCLE) if LENGTHS[k] <= length)
        numbers.append([bits >> visit | (bits & (1 << visit) - 1) << CYCLE - visit for visit in range(CYCLE)])
    return [first | second << CYCLE | third << 2 * CYCLE for first, second, third in zip(*numbers)]


SHORT = short_months()


def shortened(places):
    """Return a number that is equal for lists of visits exactly if their smallest lengths are."""
    bits = 0
    for visit in places:
        bits |= SHORT[visit % CYCLE]
    return bits


class ModelTest(unittest.TestCase):
    def test_bits_tell_the_smallest_lengths(self):
        source = random.Random(31)
        for _ in range(40):
            places = [0] + [source.randrange(-9999, 9999) for _ in range(source.randrange(4))]
            bits = shortened(places)
            lengths = reference.smallest_lengths(through(places))
            for k in range(CYCLE):
                told = 31 - (bits >> k & 1) - (bits >> CYCLE + k & 1) - (bits >> 2 * CYCLE + k & 1)
                self.assertEqual(told, lengths[k])


class ShortestTest(unittest.TestCase):
    def assert_effect(self, steps):
        """Assert that the shortest list has the effect and the number of steps; return the number."""
        number = fewest_steps(steps)
        found = shortest_list(steps)
        self.assertIs(type(number), int, steps)
        self.assertIs(type(found), list, steps)
        self.assertTrue(all(type(step) is int for step in found), steps)
        self.assertEqual(len(found), number, steps)
        self.assertEqual(sum(found), sum(steps), steps)
        self.assertEqual(shortened(visits(found)), shortened(visits(steps)), steps)
        self.assertTrue(same_effect(found, steps), steps)
        return number

    def assert_fewest(self, steps, number):
        self.assertEqual(self.assert_effect(steps), number, steps)

    def assert_no_shorter(self, steps, most=10 ** 6):
        """Search all lists with a step less; return whether they were few enough to be searched."""
        number = self.assert_effect(steps)
        total = sum(steps)
        target = shortened(visits(steps))
        ends = shortened([0, total])
        if number == 0:
            return True
        if number == 1:
            # The list without steps.
            self.assertFalse(total == 0 and target == SHORT[0], steps)
            return True
        # Only places that shorten no other day can be among the visits.
        allowed = [bits for bits in SHORT if bits | target == target]
        between = number - 2
        if len(allowed) ** between > most:
            return False
        for chosen in combinations_with_replacement(allowed, between):
            bits = ends
            for more in chosen:
                bits |= more
            self.assertNotEqual(bits, target, steps)
        return True

    def test_example_of_the_document(self):
        steps = [1] * 24
        answers = [fewest_steps(steps), fewest_steps([5, -5, 5, -5]), same_effect(shortest_list(steps), steps)]
        self.assertEqual(answers, [23, 2, True])

    def test_lists_without_effect_need_no_step(self):
        for steps in ([], [0], [0] * 60, [4800, -4800], [-4800, 9600, -4800], [4800 * 10 ** 26, -4800 * 10 ** 26]):
            self.assert_fewest(steps, 0)
            self.assertEqual(shortest_list(steps), [])

    def test_one_step(self):
        for steps in (
            [1], [-1], [12], [48], [1200], [2400], [FAR], [-FAR], [4800], [-4800], [0, 7, 0], [4800, 4800],
            [9600, -4800], [4801], [1, 4800], [4800, 1, -9600], [2400, 4800], [12, 12], [24, -12], [1200, 1200],
        ):
            self.assert_fewest(steps, 1)
            self.assertEqual(shortest_list(steps), [sum(steps)])

    def test_lists_that_end_at_the_start(self):
        for steps, number in (
            ([5, -5], 2), ([12, -12], 2), ([48, -48], 2), ([1200, -1200], 2), ([2400, -2400], 2), ([-1, 1], 2),
            ([12, 12, -24], 2), ([1200, 1200, -2400], 2), ([1, 1, -2], 3), ([48, 48, -96], 3), ([48, 1200, -1248], 3),
            ([48, 1200, 48, -1296], 4), ([1, 12, -13], 3), ([1, 12, 12, -25], 3), ([1, 4800, -4801], 2),
            ([1, 1200, -1201], 3), ([1, 2400, 3600, -6001], 3), ([12, 1, 12, -25], 4), ([1] * 12 + [-12], 13),
            ([1] * 24 + [-24], 24), ([FAR, -FAR], 2),
        ):
            self.assert_fewest(steps, number)

    def test_a_last_step_of_cycles(self):
        for steps, number in (
            ([4800], 1), ([-4800 * 7], 1), ([1, 4799], 2), ([12, 4788], 2), ([1, -1, 4800], 2), ([5, -4805], 2),
            ([1200, 3600], 2), ([1200, 1200, 2400], 2), ([1, 1, 4798], 3), ([4800, 4800, -14400], 1),
            ([12, 12, -4824], 2),
            ([48, 4752], 2), ([48, 48, 4704], 3), ([4800 * 10 ** 26 + 1, 4799], 2), ([4800, 1, -4801], 2),
        ):
            self.assert_fewest(steps, number)

    def test_start_and_end_at_one_month(self):
        for steps, number in (
            # They are never leap years together: nothing else is needed.
            ([12], 1), ([24, 12], 1), ([48, -36], 1), ([1188], 1), ([-4788, 24], 1),
            # They are four years or more apart: one more year.
            ([12, 36], 2), ([24, 24], 2), ([12, 1188], 2), ([12, 4788], 2), ([12, -60], 2),
            # They are of one remainder modulo 25, and not equal modulo 100.
            ([1200], 1), ([1200, 1200], 1), ([3600, -7200, 1200], 1), ([1200, 1200, 1200], 1),
            # They are of two remainders.
            ([48, 48], 2), ([96], 1), ([1200, 48], 2), ([1200, 1248], 2), ([1248], 1), ([1200, 48, 1200], 3),
            ([1200, 48, 1200, -2400], 3), ([1200, 48, 1200, -1200], 3), ([12, 1], 2), ([48, 1], 2),
        ):
            self.assert_fewest(steps, number)

    def test_years_of_all_25_remainders_at_one_month(self):
        for month in range(12):
            # At month 0 the start is one of the visits needed.
            more = 1 if month else 0
            both = [place(0, q, month) for q in range(50)]
            single = both[:25]
            self.assert_fewest(through(single + [0]), 25 + more)
            self.assert_fewest(through(single[::-1] + [0]), 25 + more)
            self.assert_fewest(through([visit + CYCLE * visit for visit in single] + [4800]), 25 + more)
            self.assert_fewest(through(single), 24 + more)
            for many in (1, 7, 24):
                some = both[:25 + many]
                self.assert_fewest(through(some + [0]), 25 + many + more)
                self.assert_fewest(through([visit + 2 * CYCLE for visit in some[::-1]] + [0]), 25 + many + more)
                self.assert_fewest(through(some), 24 + many + more)
            # With two of each remainder no year is left: any two years that are not equal modulo 4 do.
            self.assert_fewest(through(both + [0]), 2 + more)
            self.assert_fewest(through(both + [month]), 2)
            self.assert_fewest(through([place(0, q, month) for q in range(100)] + [0]), 2 + more)

    def test_all_months(self):
        steps = through([place(0, q, month) for month in range(12) for q in range(49)] + [0])
        self.assert_fewest(steps, 12 * 49)
        self.assert_fewest([1] * 4800, 24)
        self.assert_fewest([1] * 4800 + [-4800], 24)
        self.assert_fewest([-1] * 4801, 23)
        self.assert_fewest([1] * 11, 11)

    def test_no_list_with_a_step_less_has_the_effect(self):
        source = random.Random(32)
        lists = lists_for_comparison()
        pools = ((12, 24, -12, 36), (48, -48, 96, 1152), (1200, -1200, 2400, 4800, -4800), (1, -1, 2, 1200), STEPS)
        for k in range(250):
            lists.append([source.choice(pools[k % 5]) for _ in range(source.randrange(1, 6))])
        searched = [self.assert_no_shorter(steps, 4 * 10 ** 5) for steps in lists]
        self.assertGreater(sum(searched), 300)

    def test_no_list_with_a_step_less_has_the_effect_of_some_long_lists(self):
        for steps in ([12, 1, 12, -25], [1, 1, 12, -14], [48, 1200, 48, 1200], [1, 1200, 1200, 48, -2449]):
            self.assertTrue(self.assert_no_shorter(steps), steps)

    def test_against_all_lists_of_centuries(self):
        # No other list than one of centuries has the effect of such a list.
        centuries = [1200 * k for k in range(-5, 6)]
        shortest = {}
        for number in range(4):
            for steps in product(centuries, repeat=number):
                if abs(sum(steps)) <= 6000:
                    shortest.setdefault((sum(steps), shortened(visits(list(steps)))), (number, list(steps)))
        # Each of 11 totals with two years in a cycle or more, and three of them with one.
        self.assertEqual(len(shortest), 14)
        for number, steps in shortest.values():
            self.assert_fewest(steps, number)
            self.assert_fewest([0] + steps + [4800, 0, -4800], number)

    def test_against_all_short_lists_of_some_steps(self):
        first = {}
        last = {}
        for number in range(5):
            for steps in product((1, -1, 12, -12, 48, -48, 1200, -1200), repeat=number):
                effect = (sum(steps), shortened(visits(list(steps))))
                first.setdefault(effect, list(steps))
                last[effect] = list(steps)
        self.assertGreater(len(first), 1000)
        for effect, steps in first.items():
            number = self.assert_effect(steps)
            self.assertLessEqual(number, len(steps), steps)
            self.assert_fewest(last[effect], number)

    def test_great_numbers(self):
        source = random.Random(33)
        for _ in range(100):
            steps = [source.choice((source.randint(-FAR, FAR), FAR, -FAR)) for _ in range(source.choice((1, 4, 60)))]
            number = self.assert_effect(steps)
            self.assertLessEqual(number, len(steps))
            self.assert_fewest(steps + [4800 * 10 ** 26, -4800 * 10 ** 26], self.assert_effect(steps + [0]))
        # 10 ** 30 leaves 1600 modulo 4800: three visits, at distances of 0, 4 and 8 months.
        self.assert_fewest([FAR] * 60, 3)
        self.assert_fewest([FAR] * 61, 2)
        self.assert_fewest([FAR] * 2, 2)

    def test_the_shortest_list_of_the_shortest_list_is_as_long(self):
        for steps in lists_for_comparison():
            found = shortest_list(steps)
            self.assert_fewest(found, len(found))
            self.assertTrue(self.assert_effect(found + [0]) == len(found))

    def test_the_list_is_new_and_the_argument_is_left_alone(self):
        for steps in ([], [0], [7], [1, 1], [24, -24], [1, 2, 48]):
            before = list(steps)
            found = shortest_list(steps=steps)
            self.assertIsNot(found, steps)
            told = list(found)
            again = shortest_list(steps)
            self.assertIsNot(found, again)
            again.append(99)
            again[0] = -99
            self.assertEqual(found, told)
            self.assertEqual(shortest_list(steps), told)
            self.assertEqual(fewest_steps(steps=steps), len(told))
            self.assertEqual(steps, before)

    def test_a_later_change_of_the_argument_changes_no_answer(self):
        steps = [7]
        found = shortest_list(steps)
        steps[0] = 8
        steps.append(1)
        self.assertEqual(found, [7])

    def test_returned_lists_may_be_passed_on(self):
        long = visits([k * k for k in range(3000)])
        number = self.assert_effect(long)
        self.assert_fewest(shortest_list(long), number)
        self.assert_effect(normal_form(long)[1])


if __name__ == "__main__":
    unittest.main()
