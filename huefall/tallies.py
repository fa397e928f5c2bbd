"""The list of all tallies that fit two states."""

from huefall.errors import TooMany
from huefall.reach import check_reachable
from huefall.tally import Tally

MOST_TALLIES = 2000


def all_tallies(house, source, target, *, limit=MOST_TALLIES):
    """All tallies that fit the source and the target, in ascending order of their counts."""
    check_reachable(house, source, target)
    begun = [(0,) * house.count]
    for lamp in house.order():
        begun = with_counts_at(house, source, target, lamp, begun, limit)
    return [Tally(counts) for counts in sorted(begun)]


def with_counts_at(house, source, target, lamp, begun, limit):
    """Each of the tallies begun so far with each count that the lamp can have in it.

    A lamp has a count in every tally that is begun along the order list, so there are never
    more of these than tallies that fit.
    """
    uppers = house.above(lamp)
    longer = []
    for counts in begun:
        load = sum([counts[upper] for upper in uppers])
        least = (source[lamp] - target[lamp] - load) % house.hues
        greatest = source[lamp] + (house.hues - 1) * load
        for count in range(least, greatest + 1, house.hues):
            longer.append((*counts[:lamp], count, *counts[lamp + 1:]))
            if len(longer) > limit:
                raise TooMany(len(longer))
    return longer
