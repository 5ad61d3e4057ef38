"""A slow model of the document for the tests, written without the program."""

from calendar import monthrange

# Months after which leap years repeat.
CYCLE = 4800

# The lengths of these months, from January of a year that 400 divides.
LENGTHS = [monthrange(2000 + k // 12, k % 12 + 1)[1] for k in range(CYCLE)]


def length(year, month):
    """Return the length of a month."""
    return LENGTHS[year % 400 * 12 + month - 1]


def walk(date, steps):
    """Move a date month by month, cutting the day only at the end of each step."""
    year, month, day = date
    for step in steps:
        for _ in range(abs(step)):
            if step > 0:
                year, month = (year, month + 1) if month < 12 else (year + 1, 1)
            else:
                year, month = (year, month - 1) if month > 1 else (year - 1, 12)
        day = min(day, length(year, month))
    return (year, month, day)


def stride(date, steps):
    """Move a date as walk does, whole cycles of 400 years at once."""
    for step in steps:
        year, month, day = walk(date, [step % CYCLE])
        date = (year + step // CYCLE * 400, month, day)
    return date


def jump(date, steps):
    """Move a date as walk does, each step at once, over the lengths of a cycle."""
    year, month, day = date
    place = 12 * year + month - 1
    for step in steps:
        place += step
        day = min(day, LENGTHS[place % CYCLE])
    return (place // 12, place % 12 + 1, day)


def smallest_lengths(steps):
    """Return, for a start in each month of a cycle, the smallest length of a visited month."""
    place = 0
    places = {0}
    for step in steps:
        place = (place + step) % CYCLE
        places.add(place)
    rows = [LENGTHS[place:] + LENGTHS[:place] for place in sorted(places)]
    return bytes(map(min, zip(*rows))) if len(rows) > 1 else bytes(rows[0])


def effect(steps):
    """Return what decides the effect of a list: its total and its smallest lengths."""
    return (sum(steps), smallest_lengths(steps))


def through(places):
    """Return steps that visit places, in this order."""
    steps = []
    place = 0
    for target in places:
        steps.append(target - place)
        place = target
    return steps
