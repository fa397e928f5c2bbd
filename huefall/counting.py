"""How many states follow a state, and the rank of a state among them."""

from huefall.errors import InvalidNumber
from huefall.reach import check_reachable
from huefall.releases import is_released, released_beneath, sum_over
from huefall.states import check_state, mirror
from huefall.whole import is_whole_in


def lower_count(house, state):
    """The number of states that are reachable from the state, itself included."""
    check_state(house, state)
    return ways_to_follow(house, state, house.order(), 0)


def upper_count(house, state):
    """The number of states from which the state is reachable, itself included."""
    return lower_count(house, mirror(house, state))


def pair_count(house):
    """The number of pairs of states of which the second is reachable from the first."""
    hues = house.hues
    kept = [hues] * house.count
    lowered = [hues * (hues - 1) // 2] * house.count
    freed = [hues * hues] * house.count
    return sum_over(house, house.order(), 0, kept, lowered, freed)


def rank_below(house, state, target):
    """The number of states that are reachable from the state and have a smaller number than the target."""
    check_reachable(house, state, target)
    order = house.order()
    rank = 0
    released = 0
    for place, lamp in enumerate(order):
        smaller = released_by(house, state, released, lamp, target[lamp] - 1)
        rank += target[lamp] * ways_to_follow(house, state, order[place + 1:], smaller)
        released = released_by(house, state, released, lamp, target[lamp])
    return rank


def state_at_rank(house, state, rank):
    """The state that has the rank below the state."""
    check_state(house, state)
    if not is_whole_in(rank, 0, lower_count(house, state) - 1):
        raise InvalidNumber(rank)
    order = house.order()
    hues = [0] * house.count
    released = 0
    left = rank
    for place, lamp in enumerate(order):
        brightest = house.hues - 1 if is_released(released, lamp) else state[lamp]
        smaller = released_by(house, state, released, lamp, brightest - 1)
        # Every hue but the brightest leaves the lamps that come later the same ways to follow.
        ways = ways_to_follow(house, state, order[place + 1:], smaller)
        hues[lamp] = min(left // ways, brightest)
        left -= hues[lamp] * ways
        released = released_by(house, state, released, lamp, hues[lamp])
    return tuple(hues)


def released_by(house, state, released, lamp, hue):
    """The released lamps after the lamp, which may be a released one, has got the hue."""
    if is_released(released, lamp) or hue == state[lamp]:
        return released
    return released_beneath(house, released, lamp)


def ways_to_follow(house, state, lamps, released):
    """The number of ways in which the lamps, an end of the order list, can follow the state."""
    kept = [1] * house.count
    freed = [house.hues] * house.count
    return sum_over(house, lamps, released, kept, state, freed)
