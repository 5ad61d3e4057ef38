"""Leap years among the years that a list of steps visits, told by few years."""

from monthclamp.months import is_leap
from monthclamp.steps import visits

# Of two years in a row at most one is a leap year, so this pair stands for
# all years that are never leap years together.
NEVER_LEAP = (0, 1)


def by_remainder(numbers, divisor):
    """Return a dict that gives for each remainder the quotients of its numbers."""
    groups = {}
    for number in numbers:
        groups.setdefault(number % divisor, []).append(number // divisor)
    return groups


def standing_years(steps):
    """Return a dict that gives for each distance in months, from 0 to 11, the years that stand for those visited."""
    groups = by_remainder(visits(steps), 12)
    return {month: _standing_for(groups[month]) for month in groups}


def all_leap(start, years):
    """Return True if all these years after a start are leap years, otherwise False."""
    for year in years:
        if not is_leap(start + year):
            return False
    return True


def _standing_for(years):
    """Return the years that stand for these: the same starts make all of them leap years."""
    remainder = years[0] % 4
    if any([year % 4 != remainder for year in years]):
        return list(NEVER_LEAP)
    fours = _fours_standing_for([year // 4 for year in years])
    # Two for each of the 25 remainders: no start is left.
    if len(fours) == 50:
        return list(NEVER_LEAP)
    return [remainder + 4 * four for four in fours]


def _fours_standing_for(fours):
    """Return one or two numbers of four years for each remainder modulo 25 that occurs."""
    kept = []
    # Leap years repeat after 100 times four years: equal remainders modulo 100 count once.
    for remainder, centuries in by_remainder(sorted({four % 100 for four in fours}), 25).items():
        if len(centuries) == 1:
            kept.append(remainder + 25 * centuries[0])
        else:
            kept.extend([remainder, remainder + 25])
    return kept
