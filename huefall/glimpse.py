"""Glimpses: states of which only some lamps were seen."""

from huefall.errors import InvalidGlimpse, NotReachable
from huefall.releases import sum_over
from huefall.states import check_state
from huefall.whole import is_whole_in


def matches(house, glimpse, state):
    """True if the state has the seen hue at every seen lamp."""
    check_glimpse(house, glimpse)
    check_state(house, state)
    return is_match(glimpse, state)


def can_follow(house, state, glimpse):
    """True if some state that is reachable from the state matches the glimpse."""
    return blocked_lamp(house, state, glimpse) is None


def blocked_lamp(house, state, glimpse):
    """The smallest lamp that shows that the glimpse cannot follow the state, or None."""
    check_state(house, state)
    check_glimpse(house, glimpse)
    for lamp, seen in enumerate(glimpse):
        if seen is not None and seen > state[lamp] and is_kept_above(house, state, glimpse, lamp):
            return lamp
    return None


def matching_state(house, state, glimpse):
    """A state that is reachable from the state and matches the glimpse."""
    blocked = blocked_lamp(house, state, glimpse)
    if blocked is not None:
        raise NotReachable(blocked)
    hues = [0] * house.count
    for lamp in house.order():
        if glimpse[lamp] is not None:
            hues[lamp] = glimpse[lamp]
        elif any([hues[upper] != state[upper] for upper in house.above(lamp)]):
            hues[lamp] = house.hues - 1
        else:
            hues[lamp] = max(0, state[lamp] - 1)
    return tuple(hues)


def match_count(house, state, glimpse):
    """The number of states that are reachable from the state and match the glimpse."""
    check_state(house, state)
    check_glimpse(house, glimpse)
    # A seen lamp has one hue only, which keeps the lamp as it is, or lowers it, or neither.
    kept = [1 if seen in (None, hue) else 0 for seen, hue in zip(glimpse, state)]
    lowered = [hue if seen is None else int(seen < hue) for seen, hue in zip(glimpse, state)]
    freed = [house.hues if seen is None else 1 for seen in glimpse]
    return sum_over(house, house.order(), 0, kept, lowered, freed)


def is_glimpse(house, value):
    """True if the value is a glimpse of the house. Takes any value."""
    if not isinstance(value, tuple) or len(value) != house.count:
        return False
    return all([seen is None or is_whole_in(seen, 0, house.hues - 1) for seen in value])


def check_glimpse(house, glimpse):
    """Raise InvalidGlimpse if the value is not a glimpse of the house."""
    if not is_glimpse(house, glimpse):
        raise InvalidGlimpse(glimpse)


def is_match(glimpse, state):
    """True if the state matches the glimpse. The arguments are not checked."""
    return all([seen in (None, hue) for seen, hue in zip(glimpse, state)])


def is_kept_above(house, state, glimpse, lamp):
    """True if no state that is reachable from this one and matches differs from it above the lamp first.

    Each lamp above is seen with its hue in the state, or is not seen and is dark.
    """
    return all([glimpse[upper] == state[upper] or is_dark_unseen(state, glimpse, upper) for upper in house.above(lamp)])


def is_dark_unseen(state, glimpse, lamp):
    """True if the lamp is not seen and is dark in the state."""
    return glimpse[lamp] is None and state[lamp] == 0
