"""Dates: tuples of a year, a month and a day."""

from monthclamp.errors import InvalidDate
from monthclamp.months import days_in


def check_date(date):
    """Raise InvalidDate if a date does not exist."""
    year, month, day = date
    # The month goes first: days_in has an error of its own for a wrong one.
    if month < 1 or month > 12:
        raise InvalidDate(date)
    if day < 1 or day > days_in(year, month):
        raise InvalidDate(date)


def last_date(place):
    """Return the last date of a month, which is counted on from January of year 0."""
    year = place // 12
    month = place % 12 + 1
    return (year, month, days_in(year, month))
