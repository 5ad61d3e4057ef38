"""Tests of points [2] to [5]: read_date and read_steps."""

import random
import re
import unittest

import reference
from monthclamp.errors import Unreadable
from monthclamp.readings import read_date, read_steps
from monthclamp.steps import visits
from monthclamp.texts import show_date, show_steps
from samples import FAR, WRONG_DATES, random_date

# All characters from the space to the tilde.
SIGNS = "".join(map(chr, range(32, 127)))

LONGEST = "9" * 60
TOO_LONG = "1" + "0" * 60

DATE = re.compile("(0|-?[1-9][0-9]{0,59})/([1-9][0-9]?)/([1-9][0-9]?)")
STEP = re.compile("0|[-+][1-9][0-9]{0,59}")


def date_of(text):
    """Return the date that the document reads in a text, or None."""
    found = DATE.fullmatch(text)
    if not found:
        return None
    year, month, day = map(int, found.groups())
    return (year, month, day) if month <= 12 and day <= reference.length(year, month) else None


def steps_of(text):
    """Return the list that the document reads in a text, or None."""
    if text == "none":
        return []
    words = text.split(" ")
    return [int(word) for word in words] if all(STEP.fullmatch(word) for word in words) else None


def spoilt(source, text):
    """Return a text with a few signs removed, added, changed or moved."""
    for _ in range(source.choice((1, 1, 1, 2, 3))):
        at = source.randrange(len(text) + 1)
        sign = source.choice(("", " ", "+", "-", "0", "1", "9", "/", "/", source.choice(SIGNS), text[:1], text[-1:]))
        text = text[:at] + sign + text[at + source.randrange(3):]
    return text


class ReadingCase(unittest.TestCase):
    def assert_unreadable(self, read, text):
        with self.assertRaises(Unreadable) as caught:
            read(text)
        self.assertIs(type(caught.exception), Unreadable, text)
        self.assertEqual(caught.exception.value, text)

    def assert_read(self, read, text, told):
        """Assert that a text is read so, or that it is unreadable if told is None."""
        if told is None:
            self.assert_unreadable(read, text)
            return
        found = read(text)
        self.assertIs(type(found), type(told), text)
        self.assertEqual(found, told, text)
        self.assertTrue(all(type(number) is int for number in found), text)


class ReadDateTest(ReadingCase):
    def test_example_of_the_document(self):
        self.assert_unreadable(read_date, "2023/2/29")

    def test_ordinary_dates(self):
        for text, date in (
            ("2023/1/31", (2023, 1, 31)), ("2024/2/29", (2024, 2, 29)), ("0/1/1", (0, 1, 1)), ("0/2/29", (0, 2, 29)),
            ("-1/12/31", (-1, 12, 31)), ("-4/2/29", (-4, 2, 29)), ("-2023/10/10", (-2023, 10, 10)),
            ("7/8/9", (7, 8, 9)),
        ):
            self.assert_read(read_date, text, date)

    def test_every_date_that_is_shown_and_the_days_beside_it(self):
        for year in (0, 4, 100, 400, 1900, 2000, 2023, 2024, -1, -4, -100, -400, FAR, -FAR, FAR + 100, 10 ** 59):
            for month in range(1, 13):
                last = reference.length(year, month)
                for day in range(1, last + 1):
                    self.assert_read(read_date, show_date((year, month, day)), (year, month, day))
                for day in (0, last + 1, 32, 99, 100):
                    self.assert_unreadable(read_date, f"{year}/{month}/{day}")
            for month in (0, 13, 14, 99):
                self.assert_unreadable(read_date, f"{year}/{month}/1")

    def test_many_dates_that_are_shown(self):
        source = random.Random(71)
        for _ in range(1000):
            date = random_date(source, (0, 50, -50, 2000, 12345, -9999, FAR, -FAR, 10 ** 58))
            self.assert_read(read_date, show_date(date), date)

    def test_dates_that_do_not_exist(self):
        for date in WRONG_DATES:
            self.assert_unreadable(read_date, show_date(date))

    def test_other_texts(self):
        for text in (
            "", " ", "/", "//", "///", "none", "0", "2023", "2023/1", "2023/1/", "/1/31", "2023//31", "2023/1/31/",
            "/2023/1/31", "2023/1/31/1", "1/2023/31/0", "31/1/2023", "2023-1-31", "2023 1 31", "2023.1.31",
            "2023\\1\\31", "20230131", "2023,1,31",
            # Spaces.
            " 2023/1/31", "2023/1/31 ", "2023 /1/31", "2023/ 1/31", "2023/1 /31", "2023/1/ 31", "- 4/2/29",
            "2023/1/31 +1", "2023/1/31 none",
            # Signs.
            "+2023/1/31", "2023/+1/31", "2023/1/+31", "--4/2/29", "+-4/2/29", "-+4/2/29", "4-/2/29", "-/2/29",
            "2023/-1/31", "2023/1/-31", "-2023/-1/-31", "-", "+", "-/-/-", "+0/1/1",
            # Zeros.
            "-0/1/1", "00/1/1", "-00/1/1", "02023/1/31", "-04/2/29", "2023/01/31", "2023/1/031", "2023/1/09",
            "2023/0/1", "2023/1/0", "2023/00/1", "2023/1/00", "2023/-0/1", "0/0/0", "000/1/1",
            # Numbers that Python itself would read.
            "2_023/1/31", "2023/1_0/1", "2023.0/1/31", "2e3/1/31", "0x7e7/1/31", "2023/0b1/1", "2023/1/0o7",
            # Other characters.
            "x", "2023/Jan/31", "year/month/day", "2023/1/31x", "2023/1/31/x", "2023/1/3l", "O/1/1", "~", "!2023/1/31",
            "'2023/1/31'", "(2023, 1, 31)", "2023/1/31;", "2023/1/31#",
        ):
            self.assert_unreadable(read_date, text)

    def test_characters_outside_the_bounds(self):
        for text in ("2023/1/31\n", "\t2023/1/31", "2023/1/3\u0661", "202\u00b3/1/31", "\u0662023/1/31", "2023/1/\x00"):
            self.assert_unreadable(read_date, text)

    def test_a_single_character_anywhere(self):
        for text in ("2023/1/31", "-4/2/29", "0/12/1"):
            for at in range(len(text) + 1):
                for sign in SIGNS:
                    for changed in (text[:at] + sign + text[at:], text[:at] + sign + text[at + 1:]):
                        self.assert_read(read_date, changed, date_of(changed))

    def test_spoilt_texts(self):
        source = random.Random(72)
        answers = [0, 0]
        for _ in range(20000):
            text = spoilt(source, show_date(random_date(source, (0, 30, -30, 2000, FAR))))
            date = date_of(text)
            answers[date is None] += 1
            self.assert_read(read_date, text, date)
        self.assertGreater(min(answers), 2000)

    def test_60_digits_and_61(self):
        longest = int(LONGEST)
        self.assert_read(read_date, LONGEST + "/1/31", (longest, 1, 31))
        self.assert_read(read_date, "-" + LONGEST + "/1/31", (-longest, 1, 31))
        self.assert_read(read_date, "1" + "0" * 59 + "/2/29", (10 ** 59, 2, 29))
        for text in (TOO_LONG, "-" + TOO_LONG, "0" + LONGEST, "-0" + LONGEST, "9" * 61, "4" * 3990, "9" * 9000):
            self.assert_unreadable(read_date, text + "/1/31")
        for number in (LONGEST, TOO_LONG, "0" * 59 + "1", "0" * 60 + "1", "1" * 3000, "9" * 9000):
            self.assert_unreadable(read_date, "2023/" + number + "/1")
            self.assert_unreadable(read_date, "2023/1/" + number)
        # A year that was moved may be too long to be read again.
        self.assert_unreadable(read_date, show_date((10 ** 60, 1, 1)))
        self.assert_unreadable(read_date, show_date((-10 ** 60, 1, 1)))

    def test_texts_of_4000_characters(self):
        for sign in SIGNS:
            self.assert_unreadable(read_date, sign * 4000)
        for text in ("1/" * 2000, "2023/1/31" + " " * 3991, "-" * 3991 + "2023/1/31", "2023/1/31 " * 400):
            self.assertEqual(len(text), 4000)
            self.assert_unreadable(read_date, text)

    def test_by_name(self):
        self.assertEqual(read_date(text="2023/1/31"), (2023, 1, 31))


class ReadStepsTest(ReadingCase):
    def test_ordinary_lists(self):
        for text, steps in (
            ("none", []), ("0", [0]), ("+1", [1]), ("-1", [-1]), ("+1 -12 0", [1, -12, 0]), ("0 0", [0, 0]),
            ("+10 +20 -300", [10, 20, -300]), ("-4800 0 +4800", [-4800, 0, 4800]), ("+1 " * 5 + "+1", [1] * 6),
        ):
            self.assert_read(read_steps, text, steps)

    def test_every_list_that_is_shown(self):
        source = random.Random(73)
        for k in range(800):
            steps = [
                source.choice((0, source.randint(-20, 20), source.randint(-FAR, FAR), FAR, -FAR))
                for _ in range(source.randrange(61 if k % 4 == 0 else 5))
            ]
            self.assert_read(read_steps, show_steps(steps), steps)

    def test_other_texts(self):
        for text in (
            "", " ", "  ", "+", "-", "+ 1", "- 1", "+ -", "1", "12", "1 2", "+1 2", "1 +2", "+1 12 0",
            # Spaces.
            " +1", "+1 ", "+1  -12", " none", "none ", " 0", "0 ", "0  0", "+1   +1", "+1 -12 ", " +1 -12",
            # Signs.
            "++1", "--1", "+-1", "-+1", "1+", "1-", "+1+1", "+1-12", "+1 + 1", "+1 -", "- +1", "+1 ++1", "+0", "-0",
            "+0 +1", "+1 -0", "+1 +0",
            # Zeros.
            "00", "+01", "-01", "+00", "-00", "+1 00", "+1 -012", "0 00", "000", "+001",
            # The word for the empty list.
            "none none", "none +1", "+1 none", "0 none", "+none", "-none", "None", "NONE", "nonee", "non", "no ne",
            "[]", "[1]", "none0", "none,",
            # Numbers that Python itself would read.
            "+1_0", "-1_0", "+1.0", "+1e3", "+0x1", "-0b1", "+0o7",
            # Other characters.
            "x", "+x", "+1x", "x+1", "+1, -12", "+1,-12", "+1;-12", "+1/-12", "+1\\", "*1", "~1", "+l", "+O",
            "2023/1/31", "2023/1/31 +1", "'+1'", "+1#", "!",
        ):
            self.assert_unreadable(read_steps, text)

    def test_characters_outside_the_bounds(self):
        for text in ("+1\n", "\t+1", "+1\t+1", "+1\n+1", "+\u0661", "+1\u00b2", "-\u00b2", "\u22121", "+1\u00a0+1"):
            self.assert_unreadable(read_steps, text)

    def test_a_single_character_anywhere(self):
        for text in ("+1 -12 0", "none", "0", "-30"):
            for at in range(len(text) + 1):
                for sign in SIGNS:
                    for changed in (text[:at] + sign + text[at:], text[:at] + sign + text[at + 1:]):
                        self.assert_read(read_steps, changed, steps_of(changed))

    def test_spoilt_texts(self):
        source = random.Random(74)
        answers = [0, 0]
        for _ in range(20000):
            steps = [source.choice((0, 5, -5, 10, -120, FAR, -FAR)) for _ in range(source.randrange(5))]
            text = spoilt(source, show_steps(steps))
            told = steps_of(text)
            answers[told is None] += 1
            self.assert_read(read_steps, text, told)
        self.assertGreater(min(answers), 2000)

    def test_60_digits_and_61(self):
        longest = int(LONGEST)
        self.assert_read(read_steps, "+" + LONGEST, [longest])
        self.assert_read(read_steps, "-" + LONGEST, [-longest])
        self.assert_read(read_steps, f"+{LONGEST} 0 -{LONGEST} -1" + "0" * 59, [longest, 0, -longest, -10 ** 59])
        for number in (TOO_LONG, "9" * 61, "0" + LONGEST, "0" * 61, "1" * 3999, "9" * 9000):
            for sign in ("+", "-"):
                self.assert_unreadable(read_steps, sign + number)
                self.assert_unreadable(read_steps, "+1 " + sign + number)
                self.assert_unreadable(read_steps, sign + number + " 0")
        self.assert_unreadable(read_steps, "0" * 61)
        self.assert_unreadable(read_steps, show_steps([1, 10 ** 60]))
        self.assert_unreadable(read_steps, show_steps([-10 ** 60, 1]))

    def test_texts_of_4000_characters(self):
        for text, steps in (
            ("+1 " * 1333 + "0", [1] * 1333 + [0]), ("-9 " * 1333 + "0", [-9] * 1333 + [0]),
            ("+" + "1" * 38 + (" -" + "1" * 38) * 99, [int("1" * 38)] + [-int("1" * 38)] * 99),
            (("0 " * 2000)[:-1], [0] * 2000),
        ):
            self.assertIn(len(text), (3999, 4000))
            self.assert_read(read_steps, text, steps)
            self.assertEqual(show_steps(read_steps(text)), text)
            for spoiling in (text + " ", " " + text, text[:2000] + " " + text[2000:], text + "+", text + " none"):
                self.assert_read(read_steps, spoiling, steps_of(spoiling))
        for sign in SIGNS:
            self.assert_unreadable(read_steps, sign * 4000)

    def test_long_lists(self):
        for steps in ([12] * 20000, [0] * 20000, visits([k * k for k in range(3000)])):
            self.assert_read(read_steps, show_steps(steps), steps)
        self.assert_unreadable(read_steps, "+1 " * 20000)
        self.assert_unreadable(read_steps, "+1 " * 20000 + "1")

    def test_the_list_is_new_each_time(self):
        for text in ("none", "0", "+1 -12 0"):
            found = read_steps(text=text)
            told = list(found)
            again = read_steps(text)
            self.assertIsNot(found, again)
            again.append(99)
            again[0] = -99
            self.assertEqual(found, told)
            self.assertEqual(read_steps(text), told)


if __name__ == "__main__":
    unittest.main()
