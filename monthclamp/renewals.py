"""Renewals: one step that is repeated, also very many times."""

from monthclamp.dates import check_date
from monthclamp.errors import InvalidNumber
from monthclamp.months import CYCLE
from monthclamp.steps import move


def renew(date, step, times):
    """Return the date after a step that is repeated."""
    _check(date, times)
    # After a cycle of repetitions no month has a length that was not met before:
    # the others are taken at once.
    single = min(times, CYCLE)
    return move(date, [step] * single + [step * (times - single)])


def anchored(date, step, times):
    """Return the date after a single step that is as long as all repetitions."""
    _check(date, times)
    return move(date, [step * times])


def renewal_dates(date, step):
    """Yield the date itself and then the dates after 1, 2, 3 and so on repetitions, without end."""
    check_date(date)
    while True:
        yield date
        date = move(date, [step])


def first_difference(date, step):
    """Return the smallest number of repetitions after which renew and anchored differ, or None."""
    check_date(date)
    renewed = date
    # A cycle of repetitions leads to a month as long as the first one, where anchored
    # keeps the day: if renew has cut it by then, they differ there at the latest.
    for times in range(1, CYCLE + 1):
        renewed = move(renewed, [step])
        if renewed != move(date, [step * times]):
            return times
    return None


def _check(date, times):
    """Raise an error if a date does not exist or a number of repetitions is negative."""
    check_date(date)
    if times < 0:
        raise InvalidNumber(times)
