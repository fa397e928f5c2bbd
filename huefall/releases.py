"""Sums over states that follow a state, worked out lamp by lamp and not state by state.

A lamp is released if the state that follows differs at some lamp above it. Then it may have any
hue. A lamp that is not released keeps its hue or has a smaller one, which releases all lamps
beneath it. The released lamps are kept as the bits of an integer.
"""


def is_released(released, lamp):
    """True if the lamp is among the released ones."""
    return (released >> lamp) & 1 == 1


def released_beneath(house, released, lamp):
    """The released lamps and all lamps beneath this one."""
    for lower in house.beneath(lamp):
        released = released | (1 << lower)
    return released


def sum_over(house, lamps, released, kept, lowered, freed):
    """The sum over all ways in which the lamps can follow, of a product of one number for each.

    `lamps` is the order list or an end of it, `released` what the lamps before that end release.
    A lamp brings in its number of `kept` if it keeps its hue, of `lowered` if it does not, and
    of `freed` if it is released.
    """
    sums = {released: 1}
    for lamp in lamps:
        sums = sums_behind(house, lamp, sums, kept[lamp], lowered[lamp], freed[lamp])
    return sum(sums.values())


def sums_behind(house, lamp, sums, kept, lowered, freed):
    """For each set of released lamps the sum over the ways up to this lamp that release just these."""
    longer = {}
    for released, so_far in sums.items():
        if is_released(released, lamp):
            # The lamp does not come again. Without its bit more of the sets are the same.
            rest = released - (1 << lamp)
            longer[rest] = longer.get(rest, 0) + so_far * freed
        else:
            further = released_beneath(house, released, lamp)
            longer[released] = longer.get(released, 0) + so_far * kept
            longer[further] = longer.get(further, 0) + so_far * lowered
    return longer
