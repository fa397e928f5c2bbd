"""Tallies: how many moves a run has at each lamp."""

from huefall.errors import InvalidLamp, InvalidTally
from huefall.runs import counts_of
from huefall.states import check_state
from huefall.whole import is_whole, is_whole_in


class Tally:
    """The number of moves at each lamp. It does not change after it is made."""

    def __init__(self, counts):
        if not are_counts(counts):
            raise InvalidTally(counts)
        self.counts = tuple(counts)

    def __eq__(self, other):
        return isinstance(other, Tally) and self.counts == other.counts

    def __len__(self):
        return len(self.counts)

    def __add__(self, other):
        if not isinstance(other, Tally):
            return NotImplemented
        if len(self.counts) != len(other.counts):
            raise InvalidTally(other.counts)
        return Tally([mine + theirs for mine, theirs in zip(self.counts, other.counts)])

    @property
    def total(self):
        """The number of moves in all."""
        return sum(self.counts)

    def at(self, lamp):
        """The count of the lamp."""
        if not is_whole_in(lamp, 0, len(self.counts) - 1):
            raise InvalidLamp(lamp)
        return self.counts[lamp]

    @classmethod
    def of_run(cls, house, run):
        """The tally of the run."""
        return cls(counts_of(house, run))


def loads(house, tally):
    """For each lamp the number of moves at all lamps above it."""
    check_tally(house, tally)
    return [sum([tally.counts[upper] for upper in house.above(lamp)]) for lamp in range(house.count)]


def fits(house, source, target, tally):
    """True if some run of free moves from the source to the target has this tally."""
    check_state(house, source)
    check_state(house, target)
    check_tally(house, tally)
    for lamp, load in enumerate(loads(house, tally)):
        count = tally.counts[lamp]
        surplus = count - (source[lamp] - target[lamp] - load)
        most = source[lamp] + (house.hues - 1) * load
        if surplus % house.hues != 0 or count > most:
            return False
    return True


def are_counts(value):
    """True if the value is a list or tuple of integers of at least 0 that is not empty."""
    if not isinstance(value, (list, tuple)) or not value:
        return False
    return all([is_whole(count) and count >= 0 for count in value])


def check_tally(house, tally):
    """Raise InvalidTally if the value is not a tally with one count for each lamp."""
    if not isinstance(tally, Tally):
        raise InvalidTally(tally)
    if len(tally.counts) != house.count:
        raise InvalidTally(tally.counts)
