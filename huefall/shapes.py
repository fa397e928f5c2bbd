"""Houses of well-known shapes."""

from huefall.errors import InvalidHouse
from huefall.house import House, check_count, check_hues
from huefall.whole import is_whole, is_whole_in


def chain(count, hues):
    """A house in which each lamp hangs directly beneath the lamp before it."""
    # The wires are made from the count. The hues are left to House.
    check_count(count)
    return House(count, hues, [(lamp, lamp + 1) for lamp in range(count - 1)])


def stairs(parents, hues):
    """A house in which each lamp has no upper lamp or hangs directly beneath one earlier lamp."""
    check_count(len(parents))
    check_hues(hues)
    for lamp, parent in enumerate(parents):
        if parent is not None and not is_whole_in(parent, 0, lamp - 1):
            raise InvalidHouse("parent", lamp)
    wires = [(parent, lamp) for lamp, parent in enumerate(parents) if parent is not None]
    return House(len(parents), hues, wires)


def hillside(rows, columns, hues):
    """A house in rows and columns: beneath a lamp are the next one of its column and of its row."""
    check_size(rows, 0)
    check_size(columns, 1)
    check_count(rows * columns)
    lamps = range(rows * columns)
    down = [(lamp, lamp + columns) for lamp in lamps if lamp + columns < rows * columns]
    across = [(lamp, lamp + 1) for lamp in lamps if (lamp + 1) % columns > 0]
    return House(rows * columns, hues, down + across)


def floors(sizes, hues):
    """A house in floors: each lamp hangs directly beneath each lamp of the floor before."""
    for index, size in enumerate(sizes):
        check_size(size, index)
    check_count(sum(sizes))
    wires = []
    start = 0
    for upper_size, lower_size in zip(sizes, sizes[1:]):
        middle = start + upper_size
        wires.extend(all_wires(start, middle, middle + lower_size))
        start = middle
    return House(sum(sizes), hues, wires)


def side_by_side(first, second):
    """Both houses in one, with no wire between them; the lamps of the second follow."""
    check_pair(first, second)
    return House(first.count + second.count, first.hues, wires_of_both(first, second))


def stacked(first, second):
    """Both houses in one, each lamp of the second directly beneath each lamp of the first."""
    check_pair(first, second)
    count = first.count + second.count
    between = all_wires(0, first.count, count)
    return House(count, first.hues, wires_of_both(first, second) + between)


def check_size(size, index):
    """Raise InvalidHouse if the size is not an integer of at least 1."""
    if not is_whole(size) or size < 1:
        raise InvalidHouse("size", index)


def check_pair(first, second):
    """Raise InvalidHouse if the two houses do not fit into one."""
    check_count(first.count + second.count)
    if first.hues != second.hues:
        raise InvalidHouse("hues", 1)


def wires_of_both(first, second):
    """The wires of both houses, with the lamps of the second behind those of the first."""
    shift = first.count
    return list(first.wires) + [(upper + shift, lower + shift) for upper, lower in second.wires]


def all_wires(start, middle, end):
    """A wire from each lamp before `middle` to each lamp from there on."""
    return [(upper, lower) for upper in range(start, middle) for lower in range(middle, end)]
