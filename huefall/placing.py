"""How the moves of a run are placed when the number of moves at each lamp is given."""

from huefall.errors import TooLong


def check_length(length, limit):
    """Raise TooLong if a run of this length has more moves than the limit allows."""
    if length > limit:
        raise TooLong(length)


def free_run(house, source, counts):
    """The normal run of the counts. It is shorter than their sum if some moves are left over."""
    turners = [house.above(lamp) for lamp in range(house.count)]
    return placed_run(house.order(), source, counts, turners, lambda lamp, hue: (hue - 1) % house.hues)


def placed_run(order, source, counts, turners, turned_hue):
    """The run into which the moves at each lamp are put in, along the order list.

    `turners` has for each lamp the lamps whose moves turn it, and `turned_hue(lamp, hue)` is
    the hue that it then gets.
    """
    run = []
    for lamp in order:
        run = with_moves(run, lamp, source[lamp], counts[lamp], turners[lamp], turned_hue)
    return run


def with_moves(run, lamp, hue, count, turners, turned_hue):
    """The run with at most `count` moves at the lamp, each put in as early as the lamp is lit."""
    put = min(hue, count)
    longer = [lamp] * put
    hue -= put
    left = count - put
    for move in run:
        longer.append(move)
        if move in turners:
            hue = turned_hue(lamp, hue)
            put = min(hue, left)
            longer.extend([lamp] * put)
            hue -= put
            left -= put
    return longer


def placed_carefully(brightest, source, counts, turned):
    """The run that makes the careful move at the smallest lamp each time, until no count is left."""
    hues = list(source)
    left = list(counts)
    run = []
    lamp = next_lamp(hues, left, turned)
    while lamp is not None:
        run.append(lamp)
        hues[lamp] -= 1
        left[lamp] -= 1
        # A careful move finds all lamps that it turns dark.
        for lower in turned[lamp]:
            hues[lower] = brightest
        lamp = next_lamp(hues, left, turned)
    return run


def next_lamp(hues, left, turned):
    """The smallest lit lamp with moves left whose turned lamps are all dark, or None."""
    for lamp, count in enumerate(left):
        if count > 0 and hues[lamp] > 0 and not any([hues[lower] > 0 for lower in turned[lamp]]):
            return lamp
    return None
