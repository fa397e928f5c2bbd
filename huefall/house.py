"""Houses: lamps, their hues, and the wires by which lamps hang beneath other lamps."""

from huefall.errors import InvalidHouse, InvalidLamp
from huefall.whole import is_whole_in


class House:
    """A house of lamps. It does not change after it is made."""

    MOST_LAMPS = 16
    MOST_HUES = 10

    def __init__(self, count, hues, wires=()):
        check_count(count)
        check_hues(hues)
        self.count = count
        self.hues = hues
        self._beneath = lamps_beneath(count, wires)
        self.wires = tuple(sorted(wires))
        lamps = range(count)
        self._above = [[upper for upper in lamps if lamp in self._beneath[upper]] for lamp in lamps]
        self._direct = [[lower for upper, lower in self.wires if upper == lamp] for lamp in lamps]
        self._order = order_list(self._above)

    def __eq__(self, other):
        return (
            isinstance(other, House)
            and self.count == other.count
            and self.hues == other.hues
            and self.wires == other.wires
        )

    def __len__(self):
        return len(self._order)

    def beneath(self, lamp):
        """The lamps beneath the lamp, ascending."""
        check_lamp(self, lamp)
        return list(self._beneath[lamp])

    def above(self, lamp):
        """The lamps above the lamp, ascending."""
        check_lamp(self, lamp)
        return list(self._above[lamp])

    def direct(self, lamp):
        """The lamps directly beneath the lamp, ascending."""
        check_lamp(self, lamp)
        return list(self._direct[lamp])

    def is_beneath(self, lower, upper):
        """True if `lower` is beneath `upper`."""
        check_lamp(self, lower)
        check_lamp(self, upper)
        return lower in self._beneath[upper]

    def is_comparable(self, upper, lower):
        """True if one of the two lamps is beneath the other."""
        check_lamp(self, upper)
        check_lamp(self, lower)
        return lower in self._beneath[upper] or upper in self._beneath[lower]

    def order(self):
        """The order list: every lamp after all lamps above it."""
        return list(self._order)

    def tops(self):
        """The lamps with no lamp above them, ascending."""
        return [lamp for lamp in range(self.count) if not self._above[lamp]]

    def bottoms(self):
        """The lamps with no lamp beneath them, ascending."""
        return [lamp for lamp in range(self.count) if not self._beneath[lamp]]

    def depth(self, lamp):
        """The greatest number of wires on a path that leads down to the lamp."""
        check_lamp(self, lamp)
        depths = [0] * self.count
        for upper in self._order:
            for lower in self._direct[upper]:
                depths[lower] = max(depths[lower], depths[upper] + 1)
        return depths[lamp]

    def closed(self):
        """The house with a wire from every lamp to every lamp beneath it."""
        wires = [(upper, lower) for upper in range(self.count) for lower in self._beneath[upper]]
        return House(self.count, self.hues, wires)

    def reduced(self):
        """The house with the fewest wires that has the same lamps beneath each lamp."""
        wires = [
            (upper, lower)
            for upper in range(self.count)
            for lower in self._beneath[upper]
            if not any([lower in self._beneath[middle] for middle in self._beneath[upper]])
        ]
        return House(self.count, self.hues, wires)

    @staticmethod
    def scattered(count, hues):
        """A house without wires."""
        return House(count, hues)


def is_lamp(house, value):
    """True if the value is a lamp of the house. Takes any value."""
    return is_whole_in(value, 0, house.count - 1)


def are_lamps(house, values):
    """True if every item is a lamp of the house."""
    return all([is_lamp(house, value) for value in values])


def check_lamp(house, lamp):
    """Raise InvalidLamp if the value is not a lamp of the house."""
    if not is_lamp(house, lamp):
        raise InvalidLamp(lamp)


def check_run(house, run):
    """Raise InvalidLamp for the first item of the run that is not a lamp of the house."""
    for lamp in run:
        check_lamp(house, lamp)


def check_count(count):
    """Raise InvalidHouse if the value is not a number of lamps that a house may have."""
    if not is_whole_in(count, 1, House.MOST_LAMPS):
        raise InvalidHouse("count", 0)


def check_hues(hues):
    """Raise InvalidHouse if the value is not a number of hues that a house may have."""
    if not is_whole_in(hues, 2, House.MOST_HUES):
        raise InvalidHouse("hues", 0)


def is_wire(count, value):
    """True if the value is a pair of two different lamps. Takes any value."""
    if not isinstance(value, tuple) or len(value) != 2:
        return False
    upper, lower = value
    return is_whole_in(upper, 0, count - 1) and is_whole_in(lower, 0, count - 1) and upper != lower


def lamps_beneath(count, wires):
    """The ascending list of the lamps beneath each lamp. Raises InvalidHouse for the first bad wire."""
    beneath = [[] for _ in range(count)]
    earlier = set()
    for index, wire in enumerate(wires):
        if not is_wire(count, wire):
            raise InvalidHouse("wire", index)
        if wire in earlier:
            raise InvalidHouse("duplicate", index)
        upper, lower = wire
        if upper in beneath[lower]:
            raise InvalidHouse("cycle", index)
        earlier.add(wire)
        beneath = with_wire(beneath, upper, lower)
    return beneath


def with_wire(beneath, upper, lower):
    """The lists of the lamps beneath each lamp, with one more wire."""
    gained = [lower, *beneath[lower]]
    return [
        sorted(set(lamps + gained)) if lamp == upper or upper in lamps else lamps
        for lamp, lamps in enumerate(beneath)
    ]


def order_list(above):
    """Every lamp once: each time the smallest lamp all of whose lamps above are placed already."""
    order = []
    while len(order) < len(above):
        order.append(min([lamp for lamp in range(len(above)) if is_next(above, order, lamp)]))
    return order


def is_next(above, order, lamp):
    """True if the lamp is not placed yet while all lamps above it are."""
    return lamp not in order and all([upper in order for upper in above[lamp]])
