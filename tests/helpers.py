"""What several test files share: small houses, wrong values, and a check of errors."""

import unittest
from itertools import chain, combinations, permutations, product

from huefall.errors import InvalidHouse
from huefall.house import House

# None of these is a lamp, a count, a size or a number of anything.
NO_INTEGERS = [True, False, None, "0", "1", "", (0,), (1,), [0], [1], (), [], {}, 1.0, b"1"]


class FaultTest(unittest.TestCase):
    """A test case that can check the class and the attributes of an error."""

    def assert_fault(self, error, attributes, function, *args, **named):
        """The call raises exactly this class, with exactly these attributes.

        The words of the attributes are compared too, because True equals 1.
        """
        with self.assertRaises(error) as caught:
            function(*args, **named)
        self.assertIs(type(caught.exception), error)
        self.assertEqual(vars(caught.exception), attributes)
        self.assertEqual(repr(vars(caught.exception)), repr(attributes))


def all_houses(count, hues):
    """Every house with this number of lamps and hues."""
    pairs = list(permutations(range(count), 2))
    houses = []
    for wires in chain.from_iterable(combinations(pairs, size) for size in range(len(pairs) + 1)):
        try:
            houses.append(House(count, hues, wires))
        except InvalidHouse:
            pass
    return houses


def small_houses():
    """Every house of one to three lamps with two hues, and some with more of either."""
    houses = [*all_houses(1, 2), *all_houses(2, 2), *all_houses(3, 2), *all_houses(2, 3)]
    houses.append(House(1, 4))
    houses.append(House(3, 3, [(2, 0), (2, 1)]))
    houses.append(House(3, 3, [(0, 2), (2, 1)]))
    houses.append(House(4, 2, [(3, 1), (1, 0), (3, 2)]))
    houses.append(House(4, 2, [(0, 2), (1, 2), (1, 3)]))
    return houses


def all_states(house):
    """Every state of the house."""
    return list(product(range(house.hues), repeat=house.count))


def lamps_below(wires, lamp):
    """The lamps that paths of wires lead down to from the lamp, found by walking."""
    found = set()
    waiting = [lamp]
    while waiting:
        upper = waiting.pop()
        for above, lower in wires:
            if above == upper and lower not in found:
                found.add(lower)
                waiting.append(lower)
    return sorted(found)


def moves_from(house, state, careful):
    """The pairs of a lamp and the state after an allowed move at it, told from the wires alone."""
    found = []
    for lamp in range(house.count):
        below = lamps_below(house.wires, lamp)
        if state[lamp] == 0 or (careful and any(state[lower] for lower in below)):
            continue
        hues = list(state)
        hues[lamp] -= 1
        for lower in below:
            hues[lower] = hues[lower] - 1 if hues[lower] else house.hues - 1
        found.append((lamp, tuple(hues)))
    return found


def searched(house, source, careful):
    """Every state that runs lead to from the source, found by making moves only."""
    found = {source}
    waiting = [source]
    while waiting:
        for _, state in moves_from(house, waiting.pop(), careful):
            if state not in found:
                found.add(state)
                waiting.append(state)
    return found


def reachable_pairs(house, careful=False):
    """All pairs of a source and a target that a run leads to."""
    return {(source, target) for source in all_states(house) for target in searched(house, source, careful)}


def no_lamps(house):
    """Values that are not lamps of the house."""
    return [*NO_INTEGERS, -1, house.count, 10 ** 30]


def no_states(house):
    """Values that are not states of the house."""
    dark = (0,) * house.count
    values = [None, True, 0, "0" * house.count, list(dark), (), (0, *dark), dark[1:], {lamp: 0 for lamp in dark}]
    return values + [(*dark[1:], hue) for hue in [*NO_INTEGERS, -1, house.hues, 10 ** 30]]
