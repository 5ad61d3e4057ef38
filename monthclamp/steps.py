"""Lists of steps: where they lead a date, and the months that they visit."""

from monthclamp.dates import check_date
from monthclamp.months import days_in


def move(date, steps):
    """Return the date after a list of steps."""
    check_date(date)
    year, month, day = date
    # Months counted on from January of year 0, so that a step is a plain sum.
    place = 12 * year + month - 1
    for step in steps:
        place = place + step
        day = min(day, days_in(place // 12, place % 12 + 1))
    return (place // 12, place % 12 + 1, day)


def visits(steps):
    """Return the visits of a list, ascending and without duplicates."""
    sums = [0]
    for step in steps:
        sums.append(sums[-1] + step)
    return sorted(set(sums))
