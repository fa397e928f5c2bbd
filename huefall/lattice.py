"""The lattice of the states: meets, joins, and the pieces that join to a state."""

from huefall.moebius import lowest_lit
from huefall.statelists import check_states
from huefall.states import bright_state, mirror
from huefall.whole import power


def meet(house, first, *others):
    """The state from which just those states are reachable that are reachable from all of these."""
    return meet_all(house, [first, *others])


def join(house, first, *others):
    """The state that is reachable from just those states from which all of these are reachable."""
    return join_all(house, [first, *others])


def meet_all(house, states):
    """The meet of a list of states, the bright state for the empty list."""
    check_states(house, states)
    found = bright_state(house)
    for state in states:
        found = meet_of_two(house, found, state)
    return found


def join_all(house, states):
    """The join of a list of states, the dark state for the empty list."""
    # The mirror of the join is the meet of the mirrors.
    return mirror(house, meet_all(house, [mirror(house, state) for state in states]))


def pieces(house, state):
    """For each lowest lit lamp the state with the hues at it and above it, dark elsewhere."""
    found = []
    for lamp in lowest_lit(house, state):
        kept = [lamp, *house.above(lamp)]
        found.append(tuple([state[other] if other in kept else 0 for other in range(house.count)]))
    return found


def is_single(house, state):
    """True if the state covers exactly one state."""
    return len(lowest_lit(house, state)) == 1


def single_count(house):
    """The number of single states of the house."""
    lit_hues = house.hues - 1
    return sum([lit_hues * power(house.hues, len(house.above(lamp))) for lamp in range(house.count)])


def meet_of_two(house, first, second):
    """The meet of two states. The arguments are not checked."""
    hues = [0] * house.count
    for lamp in house.order():
        uppers = house.above(lamp)
        left_first = any([hues[upper] != first[upper] for upper in uppers])
        left_second = any([hues[upper] != second[upper] for upper in uppers])
        if left_first and left_second:
            hues[lamp] = house.hues - 1
        elif left_first:
            hues[lamp] = second[lamp]
        elif left_second:
            hues[lamp] = first[lamp]
        else:
            hues[lamp] = min(first[lamp], second[lamp])
    return tuple(hues)
