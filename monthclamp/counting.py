"""Counting: how many different effects lists of steps with one total have."""

# Effects of the visits at one distance in months, if any years or none may be visited there.
# Years that are equal modulo 4 have 25 remainders modulo 100, as in leaps.py. Each remainder
# has no year, or years that are equal modulo 400 (four ways), or years that are not. No year
# at all is the same, whatever the remainder modulo 4, and so is the last way for all 25
# remainders: these years are never leap years together.
_FREE_WAYS = 4 * (6 ** 25 - 2) + 2


def count_effects(total):
    """Return how many different effects lists of any length with this total have."""
    # What a list visits at one distance does not bind it at another one.
    if total % 12 == 0:
        return _ways_with(total // 12) * _FREE_WAYS ** 11
    return _ways_with(0) ** 2 * _FREE_WAYS ** 10


def _ways_with(year):
    """Return how many effects one distance has if year 0, this year and any others are visited there."""
    if year % 4 != 0:
        # Never leap years together, whatever else is visited.
        return 1
    if year % 100 != 0:
        # Two remainders have a year: the others there are equal to it modulo 400, or not.
        return 2 ** 2 * 6 ** 23
    if year % 400 != 0:
        # One remainder has years that are not equal modulo 400.
        return 6 ** 24
    return 2 * 6 ** 24
