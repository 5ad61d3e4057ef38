"""Dates that tell the effects of two lists apart."""

from monthclamp.dates import last_date
from monthclamp.leaps import all_leap, standing_years
from monthclamp.months import CYCLE


def parting_date(first, second):
    """Return a date that two lists lead to different dates, or None if there is none."""
    if sum(first) != sum(second):
        return (0, 1, 1)
    first_years = standing_years(first)
    second_years = standing_years(second)
    for month in range(12):
        # A list that never comes to this distance has no years that could fail to be leap years.
        year = _parting_year(first_years.get(month, []), second_years.get(month, []))
        if year is not None:
            # This many months before a February, so that the lists cut the day to February's length or not.
            return last_date((12 * year + 1 - month) % CYCLE)
    return None


def _parting_year(first, second):
    """Return a start from which all years of one list alone are leap years, or None if there is none."""
    # Equal lists are frequent, and 400 starts need not be tried for them.
    if first == second:
        return None
    for year in range(400):
        if all_leap(year, first) != all_leap(year, second):
            return year
    return None
