"""Runs that are built one move at a time."""

from huefall.errors import InvalidTally
from huefall.lengths import MOST_MOVES, greatest_counts, lamps_beneath_each
from huefall.placing import check_length, free_run, next_lamp, placed_carefully
from huefall.reach import check_reachable
from huefall.states import check_state
from huefall.tally import check_tally


def normal_run(house, source, tally, *, limit=MOST_MOVES):
    """The normal run of the tally from the source."""
    check_state(house, source)
    check_tally(house, tally)
    check_length(tally.total, limit)
    run = free_run(house, source, tally.counts)
    if len(run) < tally.total:
        raise InvalidTally(tally.counts)
    return run


def careful_run(house, source, target, *, limit=MOST_MOVES):
    """The run of careful moves from the source to the target, the smallest lamp first."""
    check_reachable(house, source, target)
    counts = greatest_counts(house, source, target)
    check_length(sum(counts), limit)
    return placed_carefully(house.hues - 1, source, counts, lamps_beneath_each(house))


def next_careful(house, source, target):
    """The lamp of the first move of the careful run, or None if the states are equal."""
    check_reachable(house, source, target)
    return next_lamp(source, greatest_counts(house, source, target), lamps_beneath_each(house))
