"""What several test files share: small houses, wrong values, and a check of errors."""

import unittest
from itertools import chain, combinations, permutations, product

from huefall.errors import InvalidHouse
from huefall.house import House

# None of these is a lamp, a count, a size or a number of anything.
NO_INTEGERS = [True, False, None, "0", "1", "", (0,), (1,), [0], [1], (), [], {}, 1.0, b"1"]


class FaultTest(unittest.TestCase):
    """A test case that can check the class and the attributes of an error."""

    def assert_fault(self, error, attributes, function, *args, **named):
        """The call raises exactly this class, with exactly these attributes.

        The words of the attributes are compared too, because True equals 1.
        """
        with self.assertRaises(error) as caught:
            function(*args, **named)
        self.assertIs(type(caught.exception), error)
        self.assertEqual(vars(caught.exception), attributes)
        self.assertEqual(repr(vars(caught.exception)), repr(attributes))


def all_houses(count, hues):
    """Every house with this number of lamps and hues."""
    pairs = list(permutations(range(count), 2))
    houses = []
    for wires in chain.from_iterable(combinations(pairs, size) for size in range(len(pairs) + 1)):
        try:
            houses.append(House(count, hues, wires))
        except InvalidHouse:
            pass
    return houses


def small_houses():
    """Every house of one to three lamps with two hues, and some with more of either."""
    houses = [*all_houses(1, 2), *all_houses(2, 2), *all_houses(3, 2), *all_houses(2, 3)]
    houses.append(House(1, 4))
    houses.append(House(3, 3, [(2, 0), (2, 1)]))
    houses.append(House(3, 3, [(0, 2), (2, 1)]))
    houses.append(House(4, 2, [(3, 1), (1, 0), (3, 2)]))
    houses.append(House(4, 2, [(0, 2), (1, 2), (1, 3)]))
    return houses


def all_states(house):
    """Every state of the house."""
    return list(product(range(house.hues), repeat=house.count))


def lamps_below(wires, lamp):
    """The lamps that paths of wires lead down to from the lamp, found by walking."""
    found = set()
    waiting = [lamp]
    while waiting:
        upper = waiting.pop()
        for above, lower in wires:
            if above == upper and lower not in found:
                found.add(lower)
                waiting.append(lower)
    return sorted(found)
