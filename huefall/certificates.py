"""Certificates: what shows that a state is reachable from another one, or that it is not."""

from huefall.building import careful_run
from huefall.errors import RefusedMove
from huefall.house import are_lamps, is_lamp
from huefall.lengths import MOST_MOVES, least_run
from huefall.reach import obstacle
from huefall.runs import play
from huefall.states import check_state

RUN = "run"
LAMP = "lamp"


def certificate(house, source, target):
    """The pair of "run" and the least run, or of "lamp" and the obstacle."""
    lamp = obstacle(house, source, target)
    if lamp is not None:
        return LAMP, lamp
    return RUN, least_run(house, source, target)


def careful_certificate(house, source, target, *, limit=MOST_MOVES):
    """The pair of "run" and the careful run, or of "lamp" and the obstacle."""
    lamp = obstacle(house, source, target)
    if lamp is not None:
        return LAMP, lamp
    return RUN, careful_run(house, source, target, limit=limit)


def is_certificate(house, source, target, value, *, careful=False):
    """True if the value is a certificate for the two states. It may be any value."""
    check_state(house, source)
    check_state(house, target)
    if not isinstance(value, tuple) or len(value) != 2:
        return False
    word, shown = value
    if not isinstance(word, str):
        return False
    if word == RUN:
        return is_run_to(house, source, target, shown, careful)
    return word == LAMP and is_lamp_against(house, source, target, shown)


def joined(house, source, middle, target):
    """A certificate whose run goes from the source to the target by way of a state between them."""
    check_state(house, source)
    check_state(house, middle)
    check_state(house, target)
    return RUN, least_run(house, source, middle) + least_run(house, middle, target)


def is_run_to(house, source, target, run, careful):
    """True if the value is a possible run from the source to the target. It may be any value."""
    if not isinstance(run, list) or not are_lamps(house, run):
        return False
    try:
        return play(house, source, run, careful=careful) == target
    except RefusedMove:
        return False


def is_lamp_against(house, source, target, lamp):
    """True if the value is a lamp where the target is brighter, with the same hues above it."""
    if not is_lamp(house, lamp) or target[lamp] <= source[lamp]:
        return False
    return all([source[upper] == target[upper] for upper in house.above(lamp)])
