import unittest

from huefall.errors import InvalidHouse
from huefall.house import House
from huefall.shapes import chain, floors, hillside, side_by_side, stacked, stairs
from tests.helpers import NO_INTEGERS, FaultTest


class ShapesTest(unittest.TestCase):
    """Point 10."""

    def test_chain(self):
        self.assertEqual(chain(4, 3), House(4, 3, [(0, 1), (1, 2), (2, 3)]))
        self.assertEqual(chain(1, 2), House(1, 2))
        self.assertEqual(len(chain(16, 10)), 16)

    def test_stairs(self):
        self.assertEqual(stairs([None, 0, 0, 2, None], 3), House(5, 3, [(0, 1), (0, 2), (2, 3)]))
        self.assertEqual(stairs([None], 2), House(1, 2))
        self.assertEqual(stairs([None] * 16, 2), House(16, 2))

    def test_hillside(self):
        wires = [(0, 1), (1, 2), (3, 4), (4, 5), (0, 3), (1, 4), (2, 5)]
        self.assertEqual(hillside(2, 3, 4), House(6, 4, wires))
        self.assertEqual(hillside(1, 16, 2), chain(16, 2))
        self.assertEqual(hillside(16, 1, 2), chain(16, 2))
        self.assertEqual(len(hillside(4, 4, 2).wires), 24)
        self.assertEqual(hillside(1, 1, 2), House(1, 2))

    def test_floors(self):
        wires = [(0, 2), (0, 3), (1, 2), (1, 3), (2, 4), (3, 4)]
        self.assertEqual(floors([2, 2, 1], 3), House(5, 3, wires))
        self.assertEqual(floors([16], 2), House(16, 2))
        self.assertEqual(floors([1] * 16, 2), chain(16, 2))

    def test_side_by_side(self):
        self.assertEqual(side_by_side(chain(2, 3), chain(3, 3)), House(5, 3, [(0, 1), (2, 3), (3, 4)]))
        self.assertEqual(side_by_side(House(8, 2), House(8, 2)), House(16, 2))

    def test_stacked(self):
        wires = [(0, 1), (2, 3), (0, 2), (0, 3), (1, 2), (1, 3)]
        self.assertEqual(stacked(chain(2, 3), chain(2, 3)), House(4, 3, wires))
        self.assertEqual(stacked(House(8, 2), House(8, 2)), floors([8, 8], 2))

    def test_lists_that_were_passed(self):
        parents = [None, 0]
        sizes = [1, 1]
        houses = [stairs(parents, 2), floors(sizes, 2)]
        self.assertEqual((parents, sizes), ([None, 0], [1, 1]))
        parents[1] = None
        sizes.append(2)
        self.assertEqual(houses, [chain(2, 2), chain(2, 2)])

    def test_houses_that_were_passed(self):
        first, second = chain(2, 3), chain(3, 3)
        side_by_side(first, second)
        stacked(first, second)
        self.assertEqual((first, second), (chain(2, 3), chain(3, 3)))


class ShapeFaultsTest(FaultTest):
    """Point 11."""

    def assert_house_fault(self, part, index, function, *args):
        self.assert_fault(InvalidHouse, {"part": part, "index": index}, function, *args)

    def test_chain(self):
        for value in [*NO_INTEGERS, 0, 17, -1, 10 ** 30]:
            self.assert_house_fault("count", 0, chain, value, 0)
        for value in [*NO_INTEGERS, 0, 1, 11, -2]:
            self.assert_house_fault("hues", 0, chain, 2, value)

    def test_stairs(self):
        self.assert_house_fault("count", 0, stairs, [], 0)
        self.assert_house_fault("count", 0, stairs, ["bad"] * 17, 0)
        for value in [*NO_INTEGERS, 1, 11]:
            self.assert_house_fault("hues", 0, stairs, [0], value)
        for value in [True, False, "0", (0,), [0], 1.0, -1, 2, 3, 10 ** 30]:
            self.assert_house_fault("parent", 2, stairs, [None, 0, value, "later"], 2)
        self.assert_house_fault("parent", 0, stairs, [0], 2)
        self.assert_house_fault("parent", 1, stairs, [None, 1], 2)

    def test_hillside(self):
        for value in [*NO_INTEGERS, 0, -1]:
            self.assert_house_fault("size", 0, hillside, value, value, 0)
            self.assert_house_fault("size", 1, hillside, 99, value, 0)
        for rows, columns in ((4, 5), (17, 1), (1, 17), (10 ** 30, 1)):
            self.assert_house_fault("count", 0, hillside, rows, columns, 0)
        for value in [*NO_INTEGERS, 1, 11]:
            self.assert_house_fault("hues", 0, hillside, 4, 4, value)

    def test_floors(self):
        for value in [*NO_INTEGERS, 0, -1]:
            self.assert_house_fault("size", 1, floors, [99, value, None], 0)
        self.assert_house_fault("count", 0, floors, [], 0)
        self.assert_house_fault("count", 0, floors, [8, 9], 0)
        self.assert_house_fault("count", 0, floors, [10 ** 30], 0)
        for value in [*NO_INTEGERS, 1, 11]:
            self.assert_house_fault("hues", 0, floors, [8, 8], value)

    def test_two_houses(self):
        for function in (side_by_side, stacked):
            self.assert_house_fault("count", 0, function, House(8, 2), House(9, 3))
            self.assert_house_fault("hues", 1, function, House(8, 2), House(8, 3))
