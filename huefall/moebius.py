"""Moebius numbers of states, and the inversion of sums over the states below a state."""

from huefall.errors import InvalidLamp, TooMany
from huefall.house import is_lamp
from huefall.listing import MOST_STATES
from huefall.moves import allowed_lamps
from huefall.states import check_state


def lowest_lit(house, state):
    """The lit lamps beneath which all lamps are dark, ascending."""
    return allowed_lamps(house, state, careful=True)


def lowered(house, state, lamps):
    """The state lowered at the lamps, which must be lowest lit lamps."""
    lowest = lowest_lit(house, state)
    for lamp in lamps:
        if not is_lamp(house, lamp) or lamp not in lowest:
            raise InvalidLamp(lamp)
    return lowered_at(house, state, lamps)


def moebius(house, source, target):
    """1 or -1 if the target is the source lowered at an even or odd number of lamps, otherwise 0."""
    check_state(house, source)
    check_state(house, target)
    lamps = [lamp for lamp in lowest_lit(house, source) if target[lamp] == source[lamp] - 1]
    if lowered_at(house, source, lamps) != target:
        return 0
    return 1 if len(lamps) % 2 == 0 else -1


def inclusion(house, state):
    """The pairs of a sign and the state lowered at each set of lowest lit lamps.

    They are in descending order of the numbers of the states.
    """
    lowest = lowest_lit(house, state)
    count = 1 << len(lowest)
    if count > MOST_STATES:
        raise TooMany(count)
    pairs = [(1, state)]
    for lamp in house.order():
        if lamp in lowest:
            # The lamps come along the order list, so what an earlier one changes weighs more.
            pairs = with_and_without(house, pairs, lamp)
    return pairs


def invert(house, state, total):
    """The sum over the inclusion list of the sign times the total of the state."""
    return sum([sign * total(other) for sign, other in inclusion(house, state)])


def lowered_at(house, state, lamps):
    """The state lowered at lowest lit lamps. The arguments are not checked."""
    hues = list(state)
    for lamp in lamps:
        hues[lamp] = state[lamp] - 1
        for lower in house.beneath(lamp):
            hues[lower] = house.hues - 1
    return tuple(hues)


def with_and_without(house, pairs, lamp):
    """Each pair, followed by the pair with the other sign and the state lowered at the lamp too."""
    longer = []
    for sign, state in pairs:
        longer.append((sign, state))
        longer.append((-sign, lowered_at(house, state, [lamp])))
    return longer
