"""Plain houses, in which no lamp is beneath two independent lamps, and what shows that one is not plain."""


def is_plain(house):
    """True if no lamp is beneath two independent lamps."""
    return fork(house) is None


def fork(house):
    """The smallest triple of two independent lamps and a lamp beneath both, or None."""
    for upper1 in range(house.count):
        for upper2 in range(upper1 + 1, house.count):
            if not house.is_comparable(upper1, upper2):
                shared = [lower for lower in house.beneath(upper1) if house.is_beneath(lower, upper2)]
                if shared:
                    return upper1, upper2, shared[0]
    return None


def fork_states(house):
    """The three states for which meet and join show that the house is not plain, or None."""
    found = fork(house)
    if found is None:
        return None
    upper1, upper2, lower = found
    return lit_once(house, [upper1]), lit_once(house, [upper2]), lit_once(house, [upper1, lower])


def lit_once(house, lamps):
    """The state with hue 1 at the lamps, dark elsewhere."""
    return tuple([1 if lamp in lamps else 0 for lamp in range(house.count)])
