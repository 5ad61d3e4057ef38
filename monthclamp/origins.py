"""Where dates come from: the dates that a list leads to a date, and those that keep their day."""

from monthclamp.dates import check_date, last_date
from monthclamp.leaps import all_leap, standing_years
from monthclamp.months import days_in
from monthclamp.steps import move


def origins(steps, date):
    """Return all dates that a list leads to a date, in ascending order."""
    check_date(date)
    year, month, day = date
    longest = last_date(12 * year + month - 1 - sum(steps))
    year, month, last = longest
    # The smallest length of all months that the list visits from there.
    cut = move(longest, steps)[2]
    if day < cut:
        return [(year, month, day)]
    if day > cut:
        return []
    return [(year, month, start) for start in range(cut, last + 1)]


def uncut_dates(steps):
    """Return how many of the dates with a year from 0 to 399 keep their day."""
    years = standing_years(steps)
    return sum([_uncut_in(month, years) for month in range(1, 13)])


def _uncut_in(month, years):
    """Return how many dates of a month keep their day in 400 years."""
    february = (2 - month) % 12
    if february in years:
        # No month is shorter: 28 days are kept, and 29 if each February visited has them.
        return 28 * 400 + sum([1 for start in range(400) if all_leap(start, years[february])])
    # Without February the year does not matter.
    return 400 * min([days_in(0, (month - 1 + later) % 12 + 1) for later in years])
