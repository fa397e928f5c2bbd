"""Sums along the order list, for free moves and for other rules of moves alike.

`turned` has for each lamp the list of the lamps that a move at it turns besides it, and
`factors` a number for each lamp. A lamp comes before the lamps that it turns in `order`.
"""


def weights_under(order, turned, factors):
    """The list of the weights: 1 plus factor times weight of each lamp that a move turns."""
    weights = [1] * len(order)
    for lamp in reversed(order):
        weights[lamp] += sum([factors[lower] * weights[lower] for lower in turned[lamp]])
    return weights


def worth_under(weights, state):
    """The sum of hue times weight."""
    return sum([hue * weight for hue, weight in zip(state, weights)])


def greatest_under(order, turned, factors, source, target):
    """The list of the greatest counts. They may be negative."""
    counts = [0] * len(order)
    loads = [0] * len(order)
    for lamp in order:
        counts[lamp] = source[lamp] - target[lamp] + factors[lamp] * loads[lamp]
        for lower in turned[lamp]:
            loads[lower] += counts[lamp]
    return counts
