"""Years and months: leap years and the lengths of months."""

from monthclamp.errors import InvalidNumber

# After this many months leap years, and with them the lengths of months, repeat.
CYCLE = 4800

_DAYS_IN_COMMON_YEAR = (31, 28, 31, 30, 31, 30, 31, 31, 30, 31, 30, 31)


def is_leap(year):
    """Return True if a year is a leap year, otherwise False."""
    return year % 4 == 0 and (year % 100 != 0 or year % 400 == 0)


def days_in(year, month):
    """Return the number of days of a month."""
    if month < 1 or month > 12:
        raise InvalidNumber(month)
    if month == 2 and is_leap(year):
        return 29
    return _DAYS_IN_COMMON_YEAR[month - 1]
