"""Tests of points [2] to [8]: Plan."""

import random
import unittest

import reference
from monthclamp.errors import InvalidDate, NothingToUndo, Unreadable
from monthclamp.months import CYCLE
from monthclamp.normal import normal_form
from monthclamp.plans import Plan
from monthclamp.shortest import shortest_list
from monthclamp.steps import visits
from monthclamp.texts import show_date, show_steps
from reference import jump, through
from samples import FAR, STEPS, WRONG_DATES, lists_for_comparison, place, random_date

YEARS = (0, 100, 400, 1900, 2000, 2024, -100, -2000, FAR, -FAR)


def plan_of(start, steps):
    """Return a plan with these steps."""
    plan = Plan(start)
    plan.step(*steps)
    return plan


class PlanCase(unittest.TestCase):
    def assert_plan(self, plan, start, steps):
        """Assert all that a plan shows of its start and its steps."""
        told = (start, steps)
        dates = [start]
        for step in steps:
            dates.append(jump(dates[-1], [step]))
        self.assertEqual(plan.start, start, told)
        self.assertEqual(plan.date, dates[-1], told)
        self.assertEqual(plan.lost, start[2] - dates[-1][2], told)
        self.assertEqual(list(plan.history()), dates, told)
        self.assertEqual([type(thing) for thing in (plan.start, plan.date, plan.lost)], [tuple, tuple, int], told)

    def assert_invalid(self, date, call):
        with self.assertRaises(InvalidDate) as caught:
            call(date)
        self.assertIs(type(caught.exception), InvalidDate)
        self.assertEqual(caught.exception.value, date)

    def assert_nothing_to_undo(self, plan):
        with self.assertRaises(NothingToUndo) as caught:
            plan.undo()
        self.assertIs(type(caught.exception), NothingToUndo)
        self.assertEqual(caught.exception.value, 0)
        self.assertIs(type(caught.exception.value), int)


class PlanTest(PlanCase):
    def test_first_example_of_the_document(self):
        plan = Plan((2024, 1, 31))
        plan.step(1, 1)
        answers = [plan.date, plan.lost, list(plan.history()), Plan.CYCLE]
        self.assertEqual(answers, [(2024, 3, 29), 2, [(2024, 1, 31), (2024, 2, 29), (2024, 3, 29)], 4800])

    def test_second_example_of_the_document(self):
        plan = Plan.read("2024/1/31 +1 -12")
        plan.restart((2023, 1, 30))
        self.assertEqual([plan.date, plan == Plan.read("2023/1/30 -12 +1")], [(2022, 2, 28), False])

    def test_what_the_class_itself_has(self):
        for name in ("__init__", "step", "undo", "restart", "history", "__eq__"):
            self.assertTrue(callable(vars(Plan)[name]), name)
        for name in ("start", "date", "lost"):
            self.assertIsInstance(vars(Plan)[name], property)
        self.assertIsInstance(vars(Plan)["read"], classmethod)

    def test_cycle(self):
        self.assertIs(type(Plan.CYCLE), int)
        self.assertEqual(Plan.CYCLE, 4800)
        self.assertEqual(Plan((2024, 1, 31)).CYCLE, 4800)
        self.assertEqual((Plan.CYCLE, Plan.CYCLE), (CYCLE, reference.CYCLE))

    def test_a_new_plan(self):
        for start in ((2024, 1, 31), (2024, 2, 29), (0, 2, 29), (-4, 2, 29), (FAR, 12, 31), (-FAR, 4, 30), (1, 1, 1)):
            self.assert_plan(Plan(start), start, [])
            self.assert_plan(Plan(start=start), start, [])

    def test_dates_that_do_not_exist(self):
        for date in WRONG_DATES:
            self.assert_invalid(date, Plan)

    def test_no_one_and_many_steps(self):
        plan = Plan((2024, 1, 31))
        self.assertIsNone(plan.step())
        self.assert_plan(plan, (2024, 1, 31), [])
        self.assertIsNone(plan.step(1))
        self.assert_plan(plan, (2024, 1, 31), [1])
        self.assertIsNone(plan.step())
        self.assert_plan(plan, (2024, 1, 31), [1])
        self.assertIsNone(plan.step(-12, 0, 24))
        self.assert_plan(plan, (2024, 1, 31), [1, -12, 0, 24])
        self.assertIsNone(plan.step(0))
        self.assert_plan(plan, (2024, 1, 31), [1, -12, 0, 24, 0])

    def test_steps_at_once_and_one_by_one(self):
        source = random.Random(81)
        for _ in range(100):
            start = random_date(source, YEARS)
            steps = [source.choice(STEPS) for _ in range(source.randrange(9))]
            once, apart = plan_of(start, steps), Plan(start)
            for step in steps:
                apart.step(step)
            self.assert_plan(once, start, steps)
            self.assert_plan(apart, start, steps)
            self.assertTrue(once == apart)

    def test_very_many_steps_in_one_call(self):
        start = (1999, 12, 31)
        for steps in ([1] * 20000, [0] * 20000, [-48, 13, FAR, -FAR, 0] * 2000, visits([k * k for k in range(3000)])):
            plan = plan_of(start, steps)
            self.assert_plan(plan, start, steps)
            plan.step(*steps)
            plan.undo()
            self.assert_plan(plan, start, steps + steps[:-1])
            self.assertTrue(plan == plan_of(start, steps + steps[:-1]))

    def test_undo(self):
        plan = plan_of((2023, 1, 31), [1, 1, 0])
        for many in (3, 2, 1):
            self.assert_plan(plan, (2023, 1, 31), [1, 1, 0][:many])
            self.assertIsNone(plan.undo())
        self.assert_plan(plan, (2023, 1, 31), [])
        self.assert_nothing_to_undo(plan)
        self.assert_plan(plan, (2023, 1, 31), [])
        plan.step(7, -7)
        plan.undo()
        plan.step(-2)
        self.assert_plan(plan, (2023, 1, 31), [7, -2])

    def test_nothing_to_undo(self):
        for plan in (Plan((2024, 1, 31)), Plan.read("2024/1/31 none"), plan_of((2024, 1, 31), [])):
            for _ in range(2):
                self.assert_nothing_to_undo(plan)
                self.assert_plan(plan, (2024, 1, 31), [])
            plan.step(1)
            plan.undo()
            self.assert_nothing_to_undo(plan)
            # A step 0 is a step.
            plan.step(0)
            plan.undo()
            self.assert_nothing_to_undo(plan)
            plan.restart((2023, 1, 30))
            self.assert_nothing_to_undo(plan)
            self.assert_plan(plan, (2023, 1, 30), [])

    def test_restart(self):
        plan = plan_of((2024, 1, 31), [1, -12])
        self.assert_plan(plan, (2024, 1, 31), [1, -12])
        for start in ((2023, 1, 30), (2024, 2, 29), (-4, 2, 29), (0, 1, 1), (FAR, 12, 31), (2024, 1, 31)):
            self.assertIsNone(plan.restart(start))
            self.assert_plan(plan, start, [1, -12])
        self.assertIsNone(plan.restart(date=(2000, 2, 29)))
        plan.undo()
        plan.step(5)
        self.assert_plan(plan, (2000, 2, 29), [1, 5])

    def test_restart_with_a_date_that_does_not_exist(self):
        for steps in ([], [1, -12]):
            plan = plan_of((2024, 1, 31), steps)
            for date in WRONG_DATES:
                self.assert_invalid(date, plan.restart)
                self.assertEqual((plan.start, plan.date), ((2024, 1, 31), jump((2024, 1, 31), steps)), date)
            self.assert_plan(plan, (2024, 1, 31), steps)

    def test_lost(self):
        for start, steps, lost in (
            ((2024, 1, 31), [], 0), ((2024, 1, 31), [1], 2), ((2023, 1, 31), [1], 3), ((2023, 1, 31), [2], 0),
            ((2023, 1, 31), [3], 1), ((2023, 1, 31), [1, -1], 3), ((2024, 2, 29), [-12, 12], 1),
            ((2023, 1, 28), [1], 0), ((2023, 1, 29), [1], 1), ((2000, 2, 29), [4800], 0), ((2000, 2, 29), [1200], 1),
            ((2023, 1, 30), [1, 12], 2),
        ):
            plan = plan_of(start, steps)
            self.assertEqual(plan.lost, lost, (start, steps))
            self.assert_plan(plan, start, steps)

    def test_many_calls(self):
        source = random.Random(82)
        for _ in range(60):
            start, steps = random_date(source, YEARS), []
            plan = Plan(start)
            for _ in range(100):
                call = source.randrange(6)
                if call < 3:
                    many = source.choice((0, 1, 1, 3))
                    more = [source.choice((source.choice(STEPS), FAR, -FAR)) for _ in range(many)]
                    plan.step(*more)
                    steps = steps + more
                elif call < 5 and steps:
                    plan.undo()
                    steps = steps[:-1]
                elif call < 5:
                    self.assert_nothing_to_undo(plan)
                elif source.randrange(2):
                    start = random_date(source, YEARS)
                    plan.restart(start)
                else:
                    self.assert_invalid(source.choice(WRONG_DATES), plan.restart)
                self.assertEqual(plan.date, jump(start, steps))
            self.assert_plan(plan, start, steps)

    def test_great_numbers(self):
        start = (FAR, 12, 31)
        plan = Plan(start)
        for many in range(60):
            self.assert_plan(plan, start, [FAR] * many)
            plan.step(FAR)
        self.assertEqual(plan.date, (6 * FAR, 12, 30))
        plan.step(*[-FAR] * 60)
        self.assert_plan(plan, start, [FAR] * 60 + [-FAR] * 60)
        # A date that was returned is a start as good as any other.
        plan.restart(plan.date)
        self.assertEqual(plan.start, (FAR, 12, 30))

    def test_two_plans_do_not_change_each_other(self):
        first, second = Plan((2024, 1, 31)), Plan((2024, 1, 31))
        first.step(1)
        self.assert_plan(second, (2024, 1, 31), [])
        second.step(2, 3)
        self.assert_plan(first, (2024, 1, 31), [1])
        second.undo()
        first.restart((2023, 5, 31))
        self.assert_plan(first, (2023, 5, 31), [1])
        self.assert_plan(second, (2024, 1, 31), [2])
        second.undo()
        self.assert_nothing_to_undo(second)
        self.assert_plan(first, (2023, 5, 31), [1])

    def test_lists_that_were_passed_are_left_alone_and_not_kept(self):
        steps = [1, 2]
        plan = plan_of((2024, 1, 31), steps)
        plan.step(3)
        plan.undo()
        plan.undo()
        self.assertEqual(steps, [1, 2])
        steps.append(5)
        steps[0] = 99
        self.assert_plan(plan, (2024, 1, 31), [1])


class HistoryTest(PlanCase):
    def test_one_date_after_another(self):
        dates = plan_of((2023, 1, 31), [1, 0, -2]).history()
        self.assertIs(iter(dates), dates)
        told = [(2023, 1, 31), (2023, 2, 28), (2023, 2, 28), (2022, 12, 28)]
        self.assertEqual([next(dates) for _ in range(4)], told)
        self.assertIsNone(next(dates, None))
        self.assertIsNone(next(dates, None))

    def test_each_call_begins_anew(self):
        plan = plan_of((2023, 1, 31), [1, 1])
        first, second = plan.history(), plan.history()
        told = [(2023, 1, 31), (2023, 2, 28), (2023, 3, 28)]
        self.assertEqual([next(first), next(first)], told[:2])
        self.assertEqual(list(second), told)
        self.assertEqual(list(first), told[2:])
        self.assertEqual(list(plan.history()), told)

    def test_a_history_changes_nothing(self):
        plan = plan_of((2023, 1, 31), [1, 1])
        for _ in plan.history():
            self.assert_plan(plan, (2023, 1, 31), [1, 1])

    def test_after_steps_undo_and_restart(self):
        plan = plan_of((2023, 1, 31), [1])
        list(plan.history())
        plan.step(1)
        self.assertEqual(list(plan.history()), [(2023, 1, 31), (2023, 2, 28), (2023, 3, 28)])
        plan.undo()
        plan.restart((2024, 1, 30))
        self.assertEqual(list(plan.history()), [(2024, 1, 30), (2024, 2, 29)])

    def test_a_change_meanwhile_raises_nothing(self):
        plan = plan_of((2023, 1, 31), [1, 1, 1])
        for k, date in zip(range(20), plan.history()):
            self.assertEqual(len(date), 3)
            plan.step(1)
            plan.restart((2000 + k, 1, 31))
        dates = plan.history()
        next(dates)
        for _ in range(3):
            plan.undo()
        list(dates)


class ReadPlanTest(PlanCase):
    def assert_unreadable(self, text):
        with self.assertRaises(Unreadable) as caught:
            Plan.read(text)
        self.assertIs(type(caught.exception), Unreadable, text)
        self.assertEqual(caught.exception.value, text)

    def test_ordinary_texts(self):
        for text, start, steps in (
            ("2024/1/31 +1 -12", (2024, 1, 31), [1, -12]), ("2024/1/31 none", (2024, 1, 31), []),
            ("2024/2/29 0", (2024, 2, 29), [0]), ("-4/2/29 -1", (-4, 2, 29), [-1]), ("0/1/1 0 0", (0, 1, 1), [0, 0]),
            ("2023/1/31 +1 +1 +1", (2023, 1, 31), [1, 1, 1]), ("-1/12/31 +4800", (-1, 12, 31), [4800]),
        ):
            plan = Plan.read(text)
            self.assertIs(type(plan), Plan)
            self.assert_plan(plan, start, steps)
            self.assertTrue(plan == plan_of(start, steps))
        self.assert_plan(Plan.read(text="2024/1/31 +1"), (2024, 1, 31), [1])

    def test_texts_that_are_shown(self):
        source = random.Random(83)
        for k in range(300):
            start = random_date(source, YEARS)
            many = source.randrange(61 if k % 5 == 0 else 5)
            steps = [source.choice((source.choice(STEPS), FAR, -FAR)) for _ in range(many)]
            plan = Plan.read(show_date(start) + " " + show_steps(steps))
            self.assert_plan(plan, start, steps)
            for _ in steps:
                plan.undo()
            self.assert_nothing_to_undo(plan)

    def test_other_texts(self):
        for text in (
            "", " ", "  ", "none", "+1", "none none", "none 2024/1/31", "+1 2024/1/31", "x",
            # No space, or no list.
            "2024/1/31", "2024/1/31 ", "2024/1/31+1", "2024/1/31none", "2024/1/31-12", "2024/1/31/+1", "2024/1/31,+1",
            # Spaces.
            " 2024/1/31 +1", "2024/1/31  +1", "2024/1/31 +1 ", "2024/1/31 +1  -12", " 2024/1/31", "2024/1/31  none",
            "2024 /1/31 +1", "2024/1/ 31 +1", "2024/1/31 + 1",
            # A date that cannot be read.
            "2024/1 +1", "2024/01/31 +1", "+2024/1/31 +1", "-0/1/31 +1", "2024/1/31/1 +1", "x +1", "/ +1", " +1",
            " none", "2024-1-31 +1", "2_024/1/31 none",
            # A date that does not exist.
            "2023/2/29 +1", "2023/2/29 none", "2023/13/1 +1", "2023/0/1 0", "2023/1/0 +1", "2023/4/31 +1",
            "1900/2/29 0",
            # A list that cannot be read.
            "2024/1/31 1", "2024/1/31 +0", "2024/1/31 -0", "2024/1/31 +01", "2024/1/31 00", "2024/1/31 None",
            "2024/1/31 none none", "2024/1/31 none +1", "2024/1/31 +1 none", "2024/1/31 +1 12", "2024/1/31 +1,-12",
            "2024/1/31 x", "2024/1/31 +", "2024/1/31 -", "2024/1/31 2024/1/31", "2024/1/31 2024/1/31 +1",
            "2024/1/31 +1_0", "2024/1/31 [1]",
            # Neither.
            "2023/2/29 1", "x y", "2023/2/29", "2023/2/29 ",
        ):
            self.assert_unreadable(text)

    def test_60_digits_and_61(self):
        longest, long = "9" * 60, "1" + "0" * 60
        plan = Plan.read(longest + "/1/31 -" + longest + " +" + longest)
        self.assert_plan(plan, (int(longest), 1, 31), [-int(longest), int(longest)])
        self.assert_plan(Plan.read("-" + longest + "/1/31 none"), (-int(longest), 1, 31), [])
        for text in (
            long + "/1/31 +1", "-" + long + "/1/31 +1", "2024/1/31 +" + long, "2024/1/31 -" + long,
            "2024/1/31 +1 +" + long + " 0", long + "/1/31 none", "2024/1/" + long + " +1", "2024/" + long + "/1 +1",
        ):
            self.assert_unreadable(text)

    def test_texts_of_4000_characters(self):
        text = "2024/1/31" + " +1" * 1330
        self.assertEqual(len(text), 3999)
        self.assert_plan(Plan.read(text), (2024, 1, 31), [1] * 1330)
        for spoilt in (text + " ", text + "+", " " + text, text[:9] + " " + text[9:], text[:9] + text[10:]):
            self.assert_unreadable(spoilt)
        for sign in " /+-019n~":
            self.assert_unreadable(sign * 4000)
            self.assert_unreadable("2024/1/31 " + sign * 3990)
            self.assert_unreadable(sign * 3990 + " +1")

    def test_the_plan_is_new_each_time(self):
        first, second = Plan.read("2024/1/31 +1"), Plan.read("2024/1/31 +1")
        self.assertIsNot(first, second)
        first.step(5)
        first.restart((2023, 1, 31))
        self.assert_plan(second, (2024, 1, 31), [1])
        self.assert_plan(Plan.read("2024/1/31 +1"), (2024, 1, 31), [1])
        # Off an object, too, which does not change.
        self.assert_plan(second.read("2000/2/29 none"), (2000, 2, 29), [])
        with self.assertRaises(Unreadable):
            second.read("2000/2/30 none")
        self.assert_plan(second, (2024, 1, 31), [1])


class EqualTest(PlanCase):
    def assert_equal_is(self, first, second, told):
        for one, other in ((first, second), (second, first)):
            self.assertIs(one == other, told)
            self.assertIs(one != other, not told)

    def test_ordinary_plans(self):
        start = (2024, 1, 31)
        for first, second, told in (
            ([], [], True), ([], [0], True), ([1], [1], True), ([1], [2], False), ([1, 1], [2], False),
            ([4800, -4800], [], True), ([4800], [], False), ([1, 2, -3], [3, -2, -1], True),
            ([12, -12], [24, -24], True), ([48, -48], [], False), ([48, -48], [4848, -4848], True),
            ([1200, -1200], [2400, -2400], True), ([1, 2], [2, 1], False), ([4801], [1, 4800], True),
            ([1], [-1], False), ([1] * 24, shortest_list([1] * 24), True),
        ):
            self.assert_equal_is(plan_of(start, first), plan_of(start, second), told)
            self.assert_equal_is(plan_of(start, first), plan_of((2024, 1, 30), second), False)
            self.assert_equal_is(plan_of(start, first), plan_of((2424, 1, 31), second), False)

    def test_the_effect_on_all_dates_counts(self):
        # These lists lead this date to the same date, and others to different dates.
        first, second = plan_of((2024, 1, 1), [1, 1]), plan_of((2024, 1, 1), [2])
        self.assertEqual(first.date, second.date)
        self.assert_equal_is(first, second, False)
        # The plans have the same date, but not the same start.
        first, second = plan_of((2024, 1, 31), [1]), plan_of((2024, 1, 30), [1])
        self.assertEqual(first.date, second.date)
        self.assert_equal_is(first, second, False)

    def test_all_pairs_against_the_lengths_of_4800_months(self):
        lists = lists_for_comparison()
        effects = [reference.effect(steps) for steps in lists]
        starts = [(2024, 1, 31), (2024, 1, 31), (2023, 1, 31)]
        plans = [[plan_of(start, steps) for start in starts] for steps in lists]
        same = 0
        for k in range(len(lists)):
            for j in range(k, len(lists)):
                equal = effects[k] == effects[j]
                same += equal and k != j
                self.assertIs(plans[k][0] == plans[j][1], equal, (lists[k], lists[j]))
                self.assertIs(plans[k][0] != plans[j][1], not equal, (lists[k], lists[j]))
                if equal:
                    self.assert_equal_is(plans[k][0], plans[j][2], False)
        self.assertGreater(same, 150)

    def test_after_steps_undo_and_restart(self):
        source = random.Random(84)
        pools = ((12, 24, -12, 36), (48, -48, 96, 1152), (1200, -1200, 2400, 4800), (1, -1, 2), STEPS)
        answers = {True: 0, False: 0}
        for k in range(120):
            start = random_date(source, YEARS)
            others = (start, start, random_date(source, YEARS))
            states = [(start, []), (start, [])]
            plans = [Plan(start), Plan(start)]
            for _ in range(12):
                at = source.randrange(2)
                begun, steps = states[at]
                call = source.randrange(5)
                if call < 3:
                    more = [source.choice(pools[k % 5]) for _ in range(source.choice((1, 1, 2)))]
                    plans[at].step(*more)
                    states[at] = (begun, steps + more)
                elif call == 3 and steps:
                    plans[at].undo()
                    states[at] = (begun, steps[:-1])
                elif call == 4:
                    date = source.choice(others)
                    plans[at].restart(date)
                    states[at] = (date, steps)
                effects = [(date, reference.effect(steps)) for date, steps in states]
                told = effects[0] == effects[1]
                answers[told] += 1
                self.assert_equal_is(*plans, told)
        self.assertGreater(min(answers.values()), 60)

    def test_an_undone_step_and_a_restart_and_back(self):
        first, second = plan_of((2024, 1, 31), [1, 2]), plan_of((2024, 1, 31), [1, 2])
        second.step(7)
        self.assert_equal_is(first, second, False)
        second.undo()
        self.assert_equal_is(first, second, True)
        # The way back visits another month.
        second.step(9, -9)
        self.assert_equal_is(first, second, False)
        second.undo()
        second.undo()
        second.restart((2023, 1, 31))
        self.assert_equal_is(first, second, False)
        second.restart((2024, 1, 31))
        self.assert_equal_is(first, second, True)
        first.undo()
        self.assert_equal_is(first, second, False)

    def test_great_numbers_and_long_lists(self):
        start = (-FAR, 2, 28)
        cycle = 4800 * 10 ** 26
        self.assert_equal_is(plan_of(start, [cycle, -cycle]), Plan(start), True)
        self.assert_equal_is(plan_of(start, [cycle + 48, -cycle]), plan_of(start, [48]), True)
        self.assert_equal_is(plan_of(start, [FAR] * 30), plan_of(start, [FAR] * 29 + [FAR, cycle, -cycle]), True)
        self.assert_equal_is(plan_of(start, [FAR] * 60), plan_of(start, [-FAR] * 60), False)
        self.assert_equal_is(plan_of(start, [1] * 10000), plan_of(start, [1] * 4800 + [5200]), True)
        both = [place(0, q, 5) for q in range(50)]
        self.assert_equal_is(plan_of(start, through(both + [0])), plan_of(start, [5, 12, -17]), True)
        self.assert_equal_is(plan_of(start, through(both[:-1] + [0])), plan_of(start, [5, 12, -17]), False)
        long = visits([k * k for k in range(3000)])
        self.assert_equal_is(plan_of(start, long), plan_of(start, normal_form(long)[1]), False)
        self.assert_equal_is(plan_of(start, long), plan_of(start, shortest_list(long)), True)

    def test_comparing_changes_nothing(self):
        first, second = plan_of((2024, 1, 31), [1, -1]), plan_of((2024, 1, 31), [2])
        for _ in range(3):
            self.assert_equal_is(first, second, False)
            self.assert_equal_is(first, first, True)
        self.assert_plan(first, (2024, 1, 31), [1, -1])
        self.assert_plan(second, (2024, 1, 31), [2])

    def test_anything_else(self):
        class Like:
            """Something with the names of a plan that takes itself for equal to anything."""

            start = date = (2024, 1, 31)
            lost = 0
            _start = start
            _steps = []

            def __eq__(self, other):
                return True

        plan = Plan((2024, 1, 31))
        self.assertIs(plan == Like(), False)
        self.assertIs(plan != Like(), True)
        for other in (
            None, True, False, 0, 1, "", "2024/1/31 none", (2024, 1, 31), [], [(2024, 1, 31)], ((2024, 1, 31), []), {},
            Plan, object(), plan.history(), plan.step, InvalidDate((2024, 1, 31)),
        ):
            self.assert_equal_is(plan, other, False)


if __name__ == "__main__":
    unittest.main()
