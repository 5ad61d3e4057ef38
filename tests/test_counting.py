"""Tests of points [8], [9] and [10]: count_effects."""

import math
import random
import unittest
from functools import cache
from itertools import combinations

import reference
from monthclamp.counting import count_effects
from monthclamp.normal import normal_form
from reference import CYCLE, through
from samples import FAR

YEARS = tuple(range(400))
ALL = (1 << 400) - 1

# For each year that is visited, the starts from which it is a leap year, as bits.
LEFT = [sum(1 << start for start in YEARS if reference.length(start + year, 2) == 29) for year in YEARS]

# What one distance can have if it need not be visited: the number that the document prints.
FREE = 4 * 6 ** 25 - 6


def left_by(years):
    """Return the starts from which all these years are leap years, as bits."""
    left = ALL
    for year in years:
        left &= LEFT[year % 400]
    return left


def subsets(things):
    """Return all lists of some of these things."""
    return [list(chosen) for many in range(len(things) + 1) for chosen in combinations(things, many)]


def count_one_by_one(needed, pool):
    """Count what visits at one distance leave, going through all choices from a small pool of years."""
    choices = [list(needed) + chosen for chosen in subsets(pool)]
    return len({left_by(years) if years else None for years in choices})


@cache
def cells(remainder):
    """Return groups of starts, as bits: each year of this remainder modulo 4 takes starts from one group alone."""
    family = YEARS[remainder::4]
    every = 0
    for year in family:
        every |= LEFT[year]
    found = []
    for year in family:
        cell = every & ~LEFT[year]
        for other in [other for other in found if other & cell]:
            found.remove(other)
            cell |= other
        found.append(cell)
    return found


@cache
def count_left(needed, pool):
    """Count as count_one_by_one does, for any pool: what is left of each group of starts is chosen by itself."""
    needed = {year % 400 for year in needed}
    years = needed | {year % 400 for year in pool}
    # Years that are not equal modulo 4 leave no start together.
    nothing_left = len({year % 4 for year in years}) > 1
    count = 0
    for remainder in range(4):
        family = [year for year in years if year % 4 == remainder]
        if not needed <= set(family):
            continue
        kinds = []
        for cell in cells(remainder):
            free = [year for year in family if cell & ~LEFT[year] and year not in needed]
            kinds.append({cell & left_by(needed) & left_by(chosen) for chosen in subsets(free)})
        count += math.prod(map(len, kinds))
        # No year at all and no start at all are counted once, not for each remainder.
        count -= not needed
        if all(0 in kind for kind in kinds):
            count -= 1
            nothing_left = True
    return count + nothing_left + (not needed)


def count_distances(total, pools):
    """Multiply what the twelve distances can have, each with a pool of years, if 0 and the total are visited."""
    count = 1
    for distance in range(12):
        needed = tuple(visit // 12 for visit in (0, total) if visit % 12 == distance)
        count *= count_left(needed, pools[distance])
    return count


class ModelTest(unittest.TestCase):
    def test_groups_of_starts(self):
        starts = [cell for remainder in range(4) for cell in cells(remainder)]
        self.assertEqual(sum(starts), ALL)
        self.assertEqual([bin(cell).count("1") for cell in starts], [4] * 100)
        for year in YEARS:
            self.assertEqual(len([cell for cell in cells(year % 4) if cell & ~LEFT[year]]), 1, year)

    def test_a_distance_against_all_choices_from_small_pools(self):
        source = random.Random(51)
        numbers = set()
        for k in range(150):
            # Mostly years that have much to do with each other.
            near = source.choice((1, 2, 4, 4, 100, 100, 100))
            pool = {near * source.randrange(400 // near) for _ in range(source.randrange(9))}
            pool |= {source.choice((0, 1, 4, 100)) * source.randrange(4) + source.randrange(2) for _ in range(k % 3)}
            needed = tuple(near * source.randrange(-9, 9) for _ in range(source.choice((0, 0, 1, 2))))
            told = count_one_by_one(needed, sorted(pool))
            self.assertEqual(count_left(needed, tuple(sorted(pool))), told, (needed, pool))
            numbers.add(told)
        self.assertGreater(len(numbers), 30)

    def test_a_distance_against_normal_forms(self):
        source = random.Random(52)
        for distance in range(12):
            near = source.choice((4, 100))
            pool = sorted({near * source.randrange(400 // near) for _ in range(6)} | {source.randrange(400)})
            lists = [through([12 * year + distance for year in chosen] + [0]) for chosen in subsets(pool)]
            found = {tuple(normal_form(steps)[1]) for steps in lists}
            self.assertEqual(len(found), count_left((0,) if distance == 0 else (), tuple(pool)), (distance, pool))

    def test_whole_lists_against_the_lengths_of_4800_months(self):
        source = random.Random(53)
        for total in (0, 1, 12, 48, 96, 1200, -1200, 4800, -4805, 2400, 13, -48):
            places = {source.choice((0, 1, total, 7)) + source.choice((0, 12, 48, 1200, 2400)) for _ in range(8)}
            lists = [through(chosen + [total]) for chosen in subsets(sorted(places))]
            pools = [tuple(visit // 12 for visit in places if visit % 12 == distance) for distance in range(12)]
            told = count_distances(total, pools)
            self.assertEqual(len({reference.effect(steps) for steps in lists}), told, (total, places))
            self.assertEqual(len({tuple(normal_form(steps)[1]) for steps in lists}), told, (total, places))


class CountEffectsTest(unittest.TestCase):
    def assert_counted(self, total):
        found = count_effects(total)
        self.assertIs(type(found), int, total)
        self.assertEqual(found, count_distances(total % CYCLE, [YEARS] * 12), total)
        return found

    def test_example_of_the_document(self):
        self.assertIs(count_effects(12) == (4 * 6 ** 25 - 6) ** 11, True)

    def test_total_0(self):
        self.assertEqual(self.assert_counted(0), 2 * 6 ** 24 * FREE ** 11)

    def test_totals_of_some_months(self):
        for total in (1, 2, 5, 6, 7, 11, 13, 23, 25, 47, 49, 1199, 1201, 4799, 4801):
            for sign in (1, -1):
                self.assertEqual(self.assert_counted(sign * total), 4 * 6 ** 48 * FREE ** 10, sign * total)

    def test_totals_of_whole_years(self):
        for years in (1, 2, 3, 5, 6, 7, 25, 50, 75, 99, 101, 397, 398, 399, 401, -1, -2, -3, -25, -398):
            self.assertEqual(self.assert_counted(12 * years), FREE ** 11, years)

    def test_multiples_of_48(self):
        for fours in (1, 2, 3, 5, 24, 26, 49, 51, 74, 76, 99, 101, 130, -1, -24, -26, -99, -101):
            self.assertEqual(self.assert_counted(48 * fours), 4 * 6 ** 23 * FREE ** 11, fours)

    def test_multiples_of_1200(self):
        for centuries in (1, 2, 3, 5, 6, 7, 41, -1, -2, -3, -5, -402):
            self.assertEqual(self.assert_counted(1200 * centuries), 6 ** 24 * FREE ** 11, centuries)

    def test_multiples_of_4800(self):
        for cycles in (1, 2, 3, 25, 400, -1, -2, -100):
            self.assertEqual(self.assert_counted(4800 * cycles), 2 * 6 ** 24 * FREE ** 11, cycles)

    def test_every_total_of_a_cycle(self):
        for total in range(CYCLE):
            self.assert_counted(total)
            self.assert_counted(total - CYCLE)

    def test_great_totals(self):
        # 10 ** 30 leaves 1600 modulo 4800, and 1600 leaves 4 modulo 12.
        cycles = FAR - 1600
        for total in (0, 1, -1, 12, 24, -36, 48, -96, 1200, -2400, 3600, 4800, -4800, 1248, 1600):
            for sign in (1, -1):
                self.assertEqual(self.assert_counted(sign * cycles + total), self.assert_counted(total), total)
        for total in (FAR, -FAR, FAR - 1, 1 - FAR, FAR - 4, 4 - FAR, FAR - 40, 10 * FAR + 8):
            self.assert_counted(total)
        self.assertEqual(count_effects(FAR), 4 * 6 ** 48 * FREE ** 10)
        self.assertEqual(count_effects(4800 * FAR), 2 * 6 ** 24 * FREE ** 11)

    def test_a_total_and_its_negative(self):
        for total in (0, 1, 12, 36, 48, 480, 1200, 2400, 4800, 5000, FAR):
            self.assertEqual(count_effects(total), count_effects(-total), total)

    def test_by_name(self):
        self.assertEqual(count_effects(total=12), FREE ** 11)


if __name__ == "__main__":
    unittest.main()
