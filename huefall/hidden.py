"""Hidden moves: what must have happened between two states that were seen."""

from huefall.house import check_lamp
from huefall.lengths import greatest_tally, least_tally
from huefall.states import check_state
from huefall.tallies import MOST_TALLIES, all_tallies


def hidden_tallies(house, source, target, *, length=None, known=(), limit=MOST_TALLIES):
    """The tallies that fit, have the length if it is known, and have all known counts."""
    check_state(house, source)
    check_state(house, target)
    for lamp, _ in known:
        check_lamp(house, lamp)
    tallies = all_tallies(house, source, target, limit=limit)
    return [tally for tally in tallies if length in (None, tally.total) and has_counts(tally, known)]


def hidden_ranges(house, source, target, *, length=None, known=(), limit=MOST_TALLIES):
    """For each lamp the least and the greatest count of the hidden tallies, or None if there are none."""
    tallies = hidden_tallies(house, source, target, length=length, known=known, limit=limit)
    if not tallies:
        return None
    counts_at = [[tally.counts[lamp] for tally in tallies] for lamp in range(house.count)]
    return [(min(counts), max(counts)) for counts in counts_at]


def sure_lamps(house, source, target):
    """The lamps at which every run from the source to the target moves, ascending."""
    counts = least_tally(house, source, target).counts
    return [lamp for lamp in range(house.count) if counts[lamp] >= 1]


def still_lamps(house, source, target):
    """The lamps at which no run from the source to the target moves, ascending."""
    counts = greatest_tally(house, source, target).counts
    return [lamp for lamp in range(house.count) if counts[lamp] == 0]


def has_counts(tally, known):
    """True if the tally has each of the known counts."""
    return all([tally.counts[lamp] == count for lamp, count in known])
