"""Lists of states: those below a state, those above it, those between two, and how many there are of each worth."""

from huefall.counting import lower_count
from huefall.errors import TooMany
from huefall.lengths import weights, worth
from huefall.reach import reaches
from huefall.states import bright_state, check_state, mirror

MOST_STATES = 4096


def each_below(house, state, *, limit=MOST_STATES):
    """Yield the states that are reachable from the state, in descending order of number.

    Every error is raised when the iteration begins.
    """
    check_state(house, state)
    check_lower_count(house, state, limit)
    current = state
    while current is not None:
        yield current
        current = next_below(house, state, current)


def each_above(house, state, *, limit=MOST_STATES):
    """Yield the states from which the state is reachable, in ascending order of number.

    Every error is raised when the iteration begins.
    """
    flipped = mirror(house, state)
    for other in each_below(house, flipped, limit=limit):
        yield mirror(house, other)


def between(house, source, target, *, limit=MOST_STATES):
    """The states between the source and the target, in descending order of number."""
    check_state(house, source)
    check_state(house, target)
    return [state for state in each_below(house, source, limit=limit) if reaches(house, state, target)]


def level_sizes(house, *, limit=MOST_STATES):
    """The numbers of states of worth 0, 1, 2 and so on."""
    length = worth(house, bright_state(house)) + 1
    if length > limit:
        raise TooMany(length)
    sizes = [1]
    for weight in weights(house):
        sizes = sizes_with_lamp(sizes, weight, house.hues)
    return sizes


def check_lower_count(house, state, limit):
    """Raise TooMany if more states than the limit allows are reachable from the state."""
    count = lower_count(house, state)
    if count > limit:
        raise TooMany(count)


def next_below(house, state, current):
    """The state with the next smaller number that is reachable from the state, or None."""
    order = house.order()
    for place in reversed(range(len(order))):
        if current[order[place]] > 0:
            return brightest_from(house, state, current, order[place:])
    return None


def brightest_from(house, state, current, lamps):
    """The state with one hue less at the first of the lamps and the greatest hues at the others.

    The lamps are an end of the order list, and the result is reachable from the state.
    """
    hues = list(current)
    hues[lamps[0]] -= 1
    for lamp in lamps[1:]:
        released = any([hues[upper] != state[upper] for upper in house.above(lamp)])
        hues[lamp] = house.hues - 1 if released else state[lamp]
    return tuple(hues)


def sizes_with_lamp(sizes, weight, hues):
    """The numbers of states of each worth when a lamp of the weight is added to the house."""
    padded = sizes + [0] * ((hues - 1) * weight)
    longer = []
    for level, size in enumerate(padded):
        # Each entry is the one a weight before it, with the size of this level put in and the
        # size that is `hues` weights away left out.
        before = longer[level - weight] if level >= weight else 0
        gone = padded[level - hues * weight] if level >= hues * weight else 0
        longer.append(before + size - gone)
    return longer
