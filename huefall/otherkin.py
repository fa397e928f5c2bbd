"""More rules of moves: another gain for the lamps beneath, heaps of coins, and lamps with hues of their own."""

from huefall.errors import InvalidHouse, InvalidNumber
from huefall.house import House, check_lamp
from huefall.kin import Kin
from huefall.whole import is_whole, is_whole_in


class GainKin(Kin):
    """The rule under which a move adds the gain to the hue of each lamp beneath."""

    LABEL = "gain"

    def __init__(self, house, gain):
        Kin.__init__(self, house)
        if not is_whole_in(gain, 1, house.hues - 1):
            raise InvalidNumber(gain)
        self.gain = gain

    def factor(self, lamp):
        """The number of moves that the lamp gains when another move turns it."""
        check_lamp(self.house, lamp)
        return self.gain

    def turned_hue(self, lamp, hue):
        """The hue of the lamp after a move that turns it. The arguments are not checked."""
        return (hue + self.gain) % self.house.hues


class CoinKin(Kin):
    """The rule of heaps: a move takes a coin from its lamp and lays coins on the lamps beneath."""

    LABEL = "coin"

    def is_state(self, value):
        """True if the value is a tuple of one heap for each lamp. Takes any value."""
        if not isinstance(value, tuple) or len(value) != self.house.count:
            return False
        return all([is_whole(heap) and heap >= 0 for heap in value])

    def turned_hue(self, lamp, hue):
        """The heap of the lamp after a move that turns it. The arguments are not checked."""
        return hue + self.factor(lamp)


class MixedKin(Kin):
    """The rule of free moves of lamps each of which has its own number of hues."""

    LABEL = "mixed"

    def __init__(self, house, sizes):
        Kin.__init__(self, house)
        check_sizes(house, sizes)
        self.sizes = tuple(sizes)

    def factor(self, lamp):
        """The number of moves that the lamp gains when another move turns it."""
        check_lamp(self.house, lamp)
        return self.sizes[lamp] - 1

    def is_state(self, value):
        """True if the value is a tuple of one hue for each lamp. Takes any value."""
        if not isinstance(value, tuple) or len(value) != self.house.count:
            return False
        return all([is_whole_in(hue, 0, size - 1) for hue, size in zip(value, self.sizes)])

    def turned_hue(self, lamp, hue):
        """The hue of the lamp after a move that turns it. The arguments are not checked."""
        return (hue - 1) % self.sizes[lamp]


def check_sizes(house, sizes):
    """Raise InvalidHouse if the value does not give a number of hues for each lamp."""
    if not isinstance(sizes, (list, tuple)) or len(sizes) != house.count:
        raise InvalidHouse("count", 0)
    for index, size in enumerate(sizes):
        if not is_whole_in(size, 2, House.MOST_HUES):
            raise InvalidHouse("size", index)
