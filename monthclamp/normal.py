"""Normal forms: the effect of a list of steps on all dates, told by few visits."""

from monthclamp.leaps import standing_years


def normal_form(steps):
    """Return the normal form of a list: its total and its normal visits."""
    kept = []
    for month, years in standing_years(steps).items():
        for year in years:
            kept.append(12 * year + month)
    return (sum(steps), sorted(kept))


def same_effect(first, second):
    """Return True if two lists lead every date to the same date, otherwise False."""
    return normal_form(first) == normal_form(second)


def commute(first, second):
    """Return True if two lists have the same effect in either order, otherwise False."""
    return same_effect(first + second, second + first)
