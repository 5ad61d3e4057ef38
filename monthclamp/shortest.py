"""Lists with the fewest steps among all that have the same effect."""

from monthclamp.leaps import NEVER_LEAP, by_remainder, standing_years


def fewest_steps(steps):
    """Return the smallest number of steps of a list with the same effect."""
    return len(shortest_list(steps))


def shortest_list(steps):
    """Return a list with the same effect and the smallest number of steps."""
    total = sum(steps)
    between = _visits_between(steps)
    if total == 0 and not between:
        return []
    found = []
    place = 0
    for visit in between + [total]:
        found.append(visit - place)
        place = visit
    return found


def _visits_between(steps):
    """Return the fewest visits that a list with the same effect has besides its start and its end."""
    ends = by_remainder([0, sum(steps)], 12)
    found = []
    for month, years in standing_years(steps).items():
        for year in _years_between(years, ends.get(month, [])):
            found.append(12 * year + month)
    return found


def _years_between(years, ends):
    """Return those of the years at one distance in months that the years of start and end do not stand for."""
    # Years that are never leap years together: any two do that are not equal modulo 4.
    # Others: as many as stand for each remainder modulo 100, and not equal modulo 400.
    near, far = (1, 4) if years == list(NEVER_LEAP) else (100, 400)
    found = []
    for remainder in sorted({year % near for year in years}):
        group = [year for year in years if year % near == remainder]
        kinds = sorted({end % far for end in ends if end % near == remainder})
        missing = [year for year in group if year % far not in kinds]
        # The list itself visits its start and end, so they are never of more kinds than the group.
        found.extend(missing[:len(group) - len(kinds)])
    return found
