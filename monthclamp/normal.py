"""Normal forms: the effect of a list of steps on all dates, told by few visits."""

from monthclamp.steps import visits

# Of two years in a row at most one is a leap year, so this pair stands for
# all years that are never leap years together.
_NEVER_LEAP = (0, 1)


def normal_form(steps):
    """Return the normal form of a list: its total and its normal visits."""
    kept = []
    for month, years in _split(visits(steps), 12).items():
        for year in _normal_years(years):
            kept.append(12 * year + month)
    return (sum(steps), sorted(kept))


def same_effect(first, second):
    """Return True if two lists lead every date to the same date, otherwise False."""
    return normal_form(first) == normal_form(second)


def commute(first, second):
    """Return True if two lists have the same effect in either order, otherwise False."""
    return same_effect(first + second, second + first)


def _split(numbers, divisor):
    """Return a dict that gives for each remainder the quotients of its numbers."""
    groups = {}
    for number in numbers:
        groups.setdefault(number % divisor, []).append(number // divisor)
    return groups


def _normal_years(years):
    """Return the years that stand for these: the same shifts make all of them leap years."""
    remainder = years[0] % 4
    if any([year % 4 != remainder for year in years]):
        return list(_NEVER_LEAP)
    fours = _normal_fours([year // 4 for year in years])
    # Two for each of the 25 remainders: no shift is left.
    if len(fours) == 50:
        return list(_NEVER_LEAP)
    return [remainder + 4 * four for four in fours]


def _normal_fours(fours):
    """Return one or two numbers of four years for each remainder modulo 25 that occurs."""
    kept = []
    # Leap years repeat after 100 times four years: equal remainders modulo 100 count once.
    for remainder, centuries in _split(sorted({four % 100 for four in fours}), 25).items():
        if len(centuries) == 1:
            kept.append(remainder + 25 * centuries[0])
        else:
            kept.extend([remainder, remainder + 25])
    return kept
