"""Which state covers which: the steps of one careful move."""

from huefall.moves import after, allowed_lamps, before
from huefall.states import check_state


def covered_by(house, state):
    """The pairs of a lamp and the state after the careful move at it, by ascending lamp."""
    lamps = allowed_lamps(house, state, careful=True)
    return [(lamp, after(house, state, lamp)) for lamp in lamps]


def covers_of(house, state):
    """The pairs of a lamp and the state from which a careful move at it leads to this one, by ascending lamp."""
    check_state(house, state)
    found = [(lamp, before(house, state, lamp, careful=True)) for lamp in range(house.count)]
    return [(lamp, other) for lamp, other in found if other is not None]


def is_cover(house, source, target):
    """True if the source covers the target."""
    check_state(house, source)
    check_state(house, target)
    return target in [other for _, other in covered_by(house, source)]
