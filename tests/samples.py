"""Dates and lists that several tests share."""

import random

import reference
from reference import through

FAR = 10 ** 30

WRONG_DATES = (
    (2023, 0, 1), (2023, 13, 1), (2023, -1, 1), (2023, -11, 1), (2023, FAR, 1), (2023, -FAR, 1),
    (2023, 1, 0), (2023, 1, -1), (2023, 1, 32), (2023, 1, FAR), (2023, 1, -FAR),
    (2023, 2, 29), (2023, 2, 30), (2023, 2, 31), (2024, 2, 30), (2024, 2, 31),
    (1900, 2, 29), (2100, 2, 29), (100, 2, 29), (-100, 2, 29), (-1, 2, 29), (FAR + 1, 2, 29), (-FAR + 100, 2, 29),
    (2023, 4, 31), (2023, 6, 31), (2023, 9, 31), (2023, 11, 31),
    (2023, 3, 32), (2023, 5, 32), (2023, 7, 32), (2023, 8, 32), (2023, 10, 32), (2023, 12, 32),
    (0, 0, 0), (2023, 13, 32), (2023, 0, 0), (2023, 12, 0),
)

# Years and months between the leap years, the centuries and the cycles, and both signs of each.
STEPS = [0] + [
    sign * size
    for sign in (1, -1)
    for size in (1, 2, 11, 12, 13, 24, 36, 48, 49, 96, 1152, 1200, 1248, 2400, 3600, 4752, 4800)
]


def random_date(source, years):
    """Return a date that exists, late days more often than early ones."""
    year = source.choice(years) + source.randrange(-5, 6)
    month = source.choice((1, 2, 2, 3, 4, 5, 6, 7, 8, 9, 10, 11, 12))
    last = reference.length(year, month)
    return (year, month, source.choice((1, source.randint(1, last), last - 2, last - 1, last, last)))


def place(a, q, r=0):
    """Return the visit that [9] writes as 12 * (a + 4 * q) + r."""
    return 12 * (a + 4 * q) + r


def lists_for_comparison():
    """Return lists among which many have the same effect in different ways."""
    source = random.Random(12)
    found = [[], [0], [0, 0], [12], [-12], [1], [-1], [1, 0], [4800, -4800], [4801], [4800, 1], [1, 4800]]
    for size in (12, 24, 36, 48, 96, 1200, 2400, 3600, 4752, 4800, 6000):
        found += [[size, -size], [-size, size], [size, -size, -size, size], [size], [-size], [size, size, -size]]
    for _ in range(25):
        steps = [source.choice(STEPS) for _ in range(source.randrange(1, 7))]
        other = list(steps)
        source.shuffle(other)
        at = source.randrange(len(steps) + 1)
        cycles = source.choice((4800, -4800, 4800 * 10 ** 26))
        found += [steps, other, steps[::-1], steps[:at] + [0] + steps[at:], steps[:at] + [cycles, -cycles] + steps[at:]]
    both = [place(0, q) for q in range(50)]
    for left_out in ([], [25], [30, 31], [49], [7, 32], [6, 7, 32], list(range(26, 50))):
        kept = [p for p in both if p // 48 not in left_out]
        found += [through(kept + [0]), through(kept[::-1] + [0]), through(kept + [4800, 0]), through(kept + [3600, 0])]
        source.shuffle(kept)
        found += [through([p + 4800 * source.randrange(-3, 4) for p in kept] + [0])]
    return found
