"""States: the hue of each lamp of a house, and the number of a state."""

from huefall.errors import InvalidNumber, InvalidState
from huefall.whole import is_whole_in, power


def is_state(house, value):
    """True if the value is a state of the house. Takes any value."""
    if not isinstance(value, tuple) or len(value) != house.count:
        return False
    return all([is_whole_in(hue, 0, house.hues - 1) for hue in value])


def check_state(house, state):
    """Raise InvalidState if the value is not a state of the house."""
    if not is_state(house, state):
        raise InvalidState(state)


def dark_state(house):
    """The state in which every lamp is dark."""
    return (0,) * house.count


def bright_state(house):
    """The state in which every lamp has the greatest hue."""
    return (house.hues - 1,) * house.count


def mirror(house, state):
    """The state with each hue h replaced by `hues - 1 - h`."""
    check_state(house, state)
    return tuple([house.hues - 1 - hue for hue in state])


def lit_lamps(house, state):
    """The lamps that are not dark, ascending."""
    check_state(house, state)
    return [lamp for lamp in range(house.count) if state[lamp] > 0]


def number_of(house, state):
    """The number that the hues spell along the order list, the first lamp's digit the highest."""
    check_state(house, state)
    number = 0
    for lamp in house.order():
        number = number * house.hues + state[lamp]
    return number


def state_of(house, number):
    """The state that has the number."""
    if not is_whole_in(number, 0, state_count(house) - 1):
        raise InvalidNumber(number)
    hues = [0] * house.count
    rest = number
    for lamp in reversed(house.order()):
        hues[lamp] = rest % house.hues
        rest = rest // house.hues
    return tuple(hues)


def state_count(house):
    """The number of states of the house."""
    return power(house.hues, house.count)
