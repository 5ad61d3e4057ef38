"""Tests of the whole program: what points [2] and [3] say of every function, and texts beside all the others."""

import copy
import random
import unittest
from itertools import islice

import reference
from monthclamp.counting import count_effects
from monthclamp.errors import DateError, InvalidDate, InvalidNumber, NothingToUndo, Unreadable
from monthclamp.months import days_in, is_leap
from monthclamp.normal import commute, normal_form, same_effect
from monthclamp.origins import origins, uncut_dates
from monthclamp.parting import parting_date
from monthclamp.plans import Plan
from monthclamp.readings import read_date, read_steps
from monthclamp.renewals import anchored, first_difference, renew, renewal_dates
from monthclamp.shortest import fewest_steps, shortest_list
from monthclamp.steps import move, visits
from monthclamp.texts import show_date, show_steps
from reference import jump
from samples import FAR, STEPS, random_date

YEARS = (0, 100, 2000, 2024, -100, FAR, -FAR)


def some_dates(date, step):
    """Return the first dates of a renewal."""
    return list(islice(renewal_dates(date=date, step=step), 5))


# Each function with arguments by their names.
CALLS = (
    (is_leap, {"year": 2000}),
    (days_in, {"year": 2024, "month": 2}),
    (move, {"date": (2023, 1, 31), "steps": [1, 1]}),
    (visits, {"steps": [1, 2, -3]}),
    (normal_form, {"steps": [24, -24]}),
    (same_effect, {"first": [1, 2, -3], "second": [3, -2, -1]}),
    (commute, {"first": [1], "second": [2]}),
    (parting_date, {"first": [48, -48], "second": []}),
    (fewest_steps, {"steps": [5, -5, 5, -5]}),
    (shortest_list, {"steps": [5, -5, 5, -5]}),
    (shortest_list, {"steps": []}),
    (origins, {"steps": [1], "date": (2023, 2, 28)}),
    (uncut_dates, {"steps": [12]}),
    (renew, {"date": (2023, 8, 31), "step": 1, "times": 7}),
    (anchored, {"date": (2023, 8, 31), "step": 1, "times": 7}),
    (some_dates, {"date": (2023, 8, 31), "step": 1}),
    (first_difference, {"date": (2023, 8, 31), "step": 1}),
    (count_effects, {"total": 12}),
    (show_date, {"date": (-4, 2, 29)}),
    (show_steps, {"steps": [1, -12, 0]}),
    (read_date, {"text": "-4/2/29"}),
    (read_steps, {"text": "+1 -12 0"}),
    (read_steps, {"text": "none"}),
)


def lists_within(answer):
    """Return an answer that is a list, and the lists within an answer."""
    found = [answer] if isinstance(answer, list) else []
    return found + [part for part in answer if isinstance(part, list)] if isinstance(answer, (list, tuple)) else found


class EveryFunctionTest(unittest.TestCase):
    def test_by_position_by_name_and_by_name_in_another_order(self):
        for call, named in CALLS:
            told = call(*named.values())
            self.assertEqual(call(**named), told, call)
            self.assertEqual(call(**dict(reversed(named.items()))), told, call)

    def test_arguments_do_not_change(self):
        for call, named in CALLS:
            before = copy.deepcopy(named)
            call(**named)
            self.assertEqual(named, before, call)

    def test_returned_lists_are_new_and_do_not_change_by_later_calls(self):
        for call, named in CALLS:
            first = call(**named)
            told = copy.deepcopy(first)
            passed = [id(value) for value in named.values()]
            second = call(**named)
            kept = [id(found) for found in lists_within(first)]
            for found in lists_within(second):
                self.assertNotIn(id(found), passed + kept, call)
                found.append(99)
                found.reverse()
            for other, others in CALLS:
                other(**others)
            self.assertEqual(first, told, call)
            self.assertEqual(call(**named), told, call)

    def test_answers_do_not_change_with_the_arguments(self):
        for call, named in CALLS:
            passed = copy.deepcopy(named)
            found = call(**passed)
            told = copy.deepcopy(found)
            for value in passed.values():
                if isinstance(value, list):
                    value.append(7)
                    value[0] = 99
            self.assertEqual(found, told, call)
            self.assertEqual(call(**named), told, call)

    def test_integers_are_never_true_or_false(self):
        for call in (fewest_steps, uncut_dates, sum):
            for steps in ([], [0], [1], [-1], [12]):
                self.assertIs(type(call(steps)), int)
        for total in (0, 1, 12):
            self.assertIs(type(count_effects(total)), int)
        plan = Plan((2024, 1, 31))
        plan.step(1)
        self.assertIs(type(plan.lost), int)

    def test_errors_are_date_errors(self):
        for kind, value, call in (
            (InvalidNumber, 13, lambda: days_in(2023, 13)),
            (InvalidDate, (2023, 2, 29), lambda: move((2023, 2, 29), [])),
            (InvalidDate, (2023, 2, 29), lambda: Plan((2023, 2, 29))), (NothingToUndo, 0, Plan((2023, 2, 28)).undo),
            (InvalidNumber, -1, lambda: renew((2023, 2, 28), 1, -1)), (Unreadable, "", lambda: read_date("")),
            (Unreadable, "1", lambda: read_steps("1")), (Unreadable, "1/1/1 1", lambda: Plan.read("1/1/1 1")),
        ):
            with self.assertRaises(DateError) as caught:
                call()
            self.assertIs(type(caught.exception), kind)
            self.assertEqual(caught.exception.value, value)


class TextsTest(unittest.TestCase):
    def test_dates_and_lists_that_are_read_lead_where_move_leads(self):
        source = random.Random(91)
        for _ in range(400):
            start = random_date(source, YEARS)
            steps = [source.choice((source.choice(STEPS), FAR, -FAR)) for _ in range(source.randrange(8))]
            date_text, steps_text = show_date(start), show_steps(steps)
            told = jump(start, steps)
            self.assertEqual(move(read_date(date_text), read_steps(steps_text)), told)
            self.assertEqual(move(start, steps), told)
            plan = Plan.read(date_text + " " + steps_text)
            self.assertEqual((plan.start, plan.date), (start, told))
            # The way on from the text of the date that was reached.
            again = Plan.read(show_date(plan.date) + " " + steps_text)
            self.assertEqual(again.date, move(told, steps))

    def test_dates_from_one_text_to_the_next(self):
        text = "2023/8/31"
        for told in ("2023/9/30", "2023/10/30", "2023/11/30", "2023/12/30", "2024/1/30", "2024/2/29", "2024/3/29"):
            text = show_date(move(read_date(text), read_steps("+1")))
            self.assertEqual(text, told)

    def test_texts_of_returned_lists(self):
        source = random.Random(92)
        for _ in range(100):
            steps = [source.choice((source.choice(STEPS), FAR)) for _ in range(source.randrange(20))]
            for found in (visits(steps), normal_form(steps)[1], shortest_list(steps), read_steps(show_steps(steps))):
                self.assertEqual(read_steps(show_steps(found)), found)
            for date in origins(steps, move((2024, 1, 31), steps)):
                self.assertEqual(read_date(show_date(date)), date)


class LongListsTest(unittest.TestCase):
    """Lists that read_steps returned, of more than 60 steps, given to every function."""

    def lists(self):
        source = random.Random(93)
        longest = int("9" * 60)
        pools = (
            [1], [0], [-1, 1, 12], STEPS, [12, 24, -36], [48, -96], [1200, -2400, 4800], [FAR, -FAR, 7],
            [longest, -longest, 1], list(range(-9999, 9999)),
        )
        texts = []
        for pool in pools:
            for many in (61, 400):
                text = show_steps([source.choice(pool) for _ in range(many)])
                # A text has at most 4000 characters.
                texts.append(text if len(text) <= 4000 else text[:4001].rpartition(" ")[0])
        texts += ["+1" + " +1" * 1332, "0" + " 0" * 1999, "-9" + " -9" * 1332, "+12" + " -12 +48" * 400]
        self.assertTrue(all(len(text) <= 4000 for text in texts))
        found = [read_steps(text) for text in texts]
        self.assertTrue(all(len(steps) > 60 for steps in found))
        return found

    def test_move_and_visits(self):
        source = random.Random(94)
        for steps in self.lists():
            before = list(steps)
            for _ in range(5):
                date = random_date(source, YEARS)
                self.assertEqual(move(date, steps), jump(date, steps))
            places = {0}
            place = 0
            for step in steps:
                place += step
                places.add(place)
            self.assertEqual(visits(steps), sorted(places))
            self.assertEqual(steps, before)

    def test_normal_form_same_effect_and_commute(self):
        lists = self.lists()
        effects = [reference.effect(steps) for steps in lists]
        for k, first in enumerate(lists):
            total, found = normal_form(first)
            self.assertEqual(total, sum(first))
            self.assertEqual(reference.smallest_lengths(reference.through(found)), effects[k][1])
            for j in (k - 1, k, (k + 7) % len(lists)):
                second = lists[j]
                self.assertIs(same_effect(first, second), effects[k] == effects[j])
                told = reference.effect(first + second) == reference.effect(second + first)
                self.assertIs(commute(first, second), told)
            self.assertIs(same_effect(first, first + [4800 * FAR, -4800 * FAR]), True)

    def test_parting_date(self):
        lists = self.lists()
        for k, first in enumerate(lists):
            for second in (lists[k - 1], first[::-1], first[:-1], first[1:] + first[:1], shortest_list(first)):
                date = parting_date(first, second)
                if reference.effect(first) == reference.effect(second):
                    self.assertIsNone(date)
                else:
                    self.assertIn(date[0], range(400))
                    self.assertNotEqual(jump(date, first), jump(date, second))

    def test_fewest_steps_and_shortest_list(self):
        for steps in self.lists():
            found = shortest_list(steps)
            self.assertEqual(fewest_steps(steps), len(found))
            self.assertLessEqual(len(found), len(steps))
            self.assertEqual(reference.effect(found), reference.effect(steps))
            self.assertEqual(fewest_steps(found), len(found))

    def test_origins_and_uncut_dates(self):
        source = random.Random(95)
        for steps in self.lists():
            self.assertEqual(uncut_dates(steps), sum(reference.smallest_lengths(steps)))
            for _ in range(3):
                date = random_date(source, YEARS)
                after = jump(date, steps)
                year, month, _ = date
                dates = [(year, month, day) for day in range(1, reference.length(year, month) + 1)]
                told = [origin for origin in dates if jump(origin, steps) == after]
                self.assertEqual(origins(steps, after), told)
                self.assertIn(date, told)

    def test_texts_and_plans(self):
        for steps in self.lists():
            self.assertEqual(read_steps(show_steps(steps)), steps)
            plan = Plan((2024, 1, 31))
            plan.step(*steps)
            self.assertEqual(plan.date, jump((2024, 1, 31), steps))
            self.assertEqual(len(list(plan.history())), len(steps) + 1)
            other = Plan((2024, 1, 31))
            other.step(*shortest_list(steps))
            self.assertTrue(plan == other)
            self.assertEqual(count_effects(sum(steps)), count_effects(sum(steps) % 4800))


if __name__ == "__main__":
    unittest.main()
