"""Single moves, free and careful, forwards and backwards."""

from huefall.errors import DarkLamp, LitBeneath
from huefall.house import check_lamp
from huefall.states import check_state


def is_allowed(house, state, lamp, *, careful=False):
    """True if the move at the lamp is allowed."""
    check_state(house, state)
    check_lamp(house, lamp)
    return can_move(house, state, lamp, careful)


def allowed_lamps(house, state, *, careful=False):
    """The lamps with an allowed move, ascending."""
    check_state(house, state)
    return [lamp for lamp in range(house.count) if can_move(house, state, lamp, careful)]


def after(house, state, lamp, *, careful=False):
    """The state after the move at the lamp."""
    check_state(house, state)
    check_lamp(house, lamp)
    return moved(house, state, lamp, 0, careful)


def before(house, state, lamp, *, careful=False):
    """The state before a move at the lamp that leads to this state, or None."""
    check_state(house, state)
    check_lamp(house, lamp)
    brightest = house.hues - 1
    lowers = house.beneath(lamp)
    if state[lamp] == brightest:
        return None
    if careful and any([state[lower] < brightest for lower in lowers]):
        return None
    return turned(house, state, [lamp, *lowers], 1)


def can_move(house, state, lamp, careful):
    """True if the move is allowed. The arguments are not checked."""
    return state[lamp] > 0 and not (careful and first_lit_beneath(house, state, lamp) is not None)


def moved(house, state, lamp, step, careful):
    """The state after the move with the index `step` of its run. The arguments are not checked."""
    if state[lamp] == 0:
        raise DarkLamp(lamp, step)
    if careful:
        lower = first_lit_beneath(house, state, lamp)
        if lower is not None:
            raise LitBeneath(lamp, step, lower)
    return turned(house, state, [lamp, *house.beneath(lamp)], -1)


def first_lit_beneath(house, state, lamp):
    """The smallest lit lamp beneath the lamp, or None."""
    for lower in house.beneath(lamp):
        if state[lower] > 0:
            return lower
    return None


def turned(house, state, lamps, by):
    """The state with the hue of each of the lamps changed by 1 or -1; dark and brightest are neighbours."""
    hues = list(state)
    for lamp in lamps:
        hues[lamp] = (hues[lamp] + by) % house.hues
    return tuple(hues)
