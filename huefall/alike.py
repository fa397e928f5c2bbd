"""Which rules of moves reach the same pairs of states, and a pair that tells two rules apart."""

from huefall.errors import InvalidHouse
from huefall.plainness import lit_once


def is_alike(first, second):
    """True if the two rules reach the same pairs of states."""
    return parting_lamp(first, second) is None


def parting(first, second):
    """A pair of states that exactly one of the two rules reaches, or None if they are alike."""
    lamp = parting_lamp(first, second)
    if lamp is None:
        return None
    source = lit_once(first.house, [lamp])
    first_target = first.after(source, lamp)
    second_target = second.after(source, lamp)
    if not second.reaches(source, first_target):
        return source, first_target
    if not first.reaches(source, second_target):
        return source, second_target
    return second_target, first_target


def parting_lamp(first, second):
    """The smallest lamp at which the two rules turn different lamps, or None."""
    if first.house.count != second.house.count:
        raise InvalidHouse("count", 1)
    if first.house.hues != second.house.hues:
        raise InvalidHouse("hues", 1)
    for lamp in range(first.house.count):
        if first.turned(lamp) != second.turned(lamp):
            return lamp
    return None
