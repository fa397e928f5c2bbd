"""Which states are reachable from which, told from the lamps where they differ."""

from huefall.errors import NotReachable
from huefall.states import check_state


def topmost_differences(house, source, target):
    """The lamps where the states differ and above which they do not differ, ascending."""
    check_state(house, source)
    check_state(house, target)
    differing = [lamp for lamp in range(house.count) if source[lamp] != target[lamp]]
    return [lamp for lamp in differing if not any([upper in differing for upper in house.above(lamp)])]


def is_reachable(house, source, target):
    """True if a possible run leads from the source to the target."""
    check_state(house, source)
    check_state(house, target)
    return reaches(house, source, target)


def obstacle(house, source, target):
    """The smallest topmost difference where the target is brighter, or None."""
    for lamp in topmost_differences(house, source, target):
        if source[lamp] < target[lamp]:
            return lamp
    return None


def check_reachable(house, source, target):
    """Raise NotReachable if the target is not reachable from the source."""
    lamp = obstacle(house, source, target)
    if lamp is not None:
        raise NotReachable(lamp)


def compare(house, first, second):
    """How two states compare: "same", "down", "up" or "apart"."""
    check_state(house, first)
    check_state(house, second)
    if first == second:
        return "same"
    if reaches(house, first, second):
        return "down"
    if reaches(house, second, first):
        return "up"
    return "apart"


def witnesses(house, first, second):
    """The two obstacles that show that the states are apart, or None if they are not."""
    if compare(house, first, second) != "apart":
        return None
    return obstacle(house, first, second), obstacle(house, second, first)


def reaches(house, source, target):
    """True if the target is reachable. The arguments are not checked."""
    # Lists of states need very many pairs, so this stops at the first topmost difference that
    # decides. The order list comes to every lamp after the lamps above it, so a lamp that is
    # not passed over is topmost.
    passed_over = []
    for lamp in house.order():
        if source[lamp] != target[lamp] and lamp not in passed_over:
            if source[lamp] < target[lamp]:
                return False
            passed_over.extend(house.beneath(lamp))
    return True
