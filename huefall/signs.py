"""Way numbers and signs: what a difference at one lamp adds to the counts at another."""

from huefall.house import check_lamp
from huefall.states import check_state


def way_number(house, upper, lower):
    """How many moves at `lower` each hue at `upper` adds to the greatest count."""
    check_lamp(house, upper)
    return way_row(house, lower)[upper]


def sign(house, upper, lower):
    """What each hue at `upper` adds to the least count at `lower`, before the remainder is taken."""
    check_lamp(house, upper)
    return sign_row(house, lower)[upper]


def way_row(house, lower):
    """The list of the way numbers of each lamp and `lower`."""
    check_lamp(house, lower)
    return row(house, lower, house.hues - 1)


def sign_row(house, lower):
    """The list of the signs of each lamp and `lower`."""
    check_lamp(house, lower)
    return row(house, lower, -1)


def least_by_signs(house, source, target):
    """The list of the least counts. It raises no error if the target is not reachable."""
    return [count % house.hues for count in sums_by(house, source, target, -1)]


def greatest_by_ways(house, source, target):
    """The list of the greatest counts, some of them negative if the target is not reachable."""
    return sums_by(house, source, target, house.hues - 1)


def row(house, lower, factor):
    """For each lamp the factor times the sum of these numbers of all lamps beneath it; 1 at `lower`."""
    numbers = [0] * house.count
    for upper in reversed(house.order()):
        numbers[upper] = factor * sum([numbers[middle] for middle in house.beneath(upper)])
        if upper == lower:
            numbers[upper] = 1
    return numbers


def sums_by(house, source, target, factor):
    """For each lamp the sum over all lamps of their number and it, times the difference there."""
    check_state(house, source)
    check_state(house, target)
    sums = []
    for lower in range(house.count):
        numbers = row(house, lower, factor)
        sums.append(sum([numbers[lamp] * (source[lamp] - target[lamp]) for lamp in range(house.count)]))
    return sums
