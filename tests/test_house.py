import unittest

from huefall.errors import InvalidHouse, InvalidLamp
from huefall.house import House, is_lamp
from tests.helpers import NO_INTEGERS, FaultTest, all_houses, lamps_below, small_houses

ALL_WIRES = [(upper, lower) for upper in range(16) for lower in range(upper + 1, 16)]


class MakingTest(FaultTest):
    """Points 5 and 6."""

    def test_attributes(self):
        house = House(3, 4, [(2, 0), (0, 1)])
        self.assertEqual((house.count, house.hues, house.wires), (3, 4, ((0, 1), (2, 0))))
        self.assertIs(type(house.wires), tuple)

    def test_class_values(self):
        self.assertEqual((House.MOST_LAMPS, House.MOST_HUES), (16, 10))

    def test_wires_as_a_tuple_and_left_out(self):
        self.assertEqual(House(2, 2, ((1, 0),)).wires, ((1, 0),))
        self.assertEqual(House(2, 2).wires, ())
        self.assertEqual(House(2, 2, []).wires, ())

    def test_edges_of_count_and_hues(self):
        for count in (1, 16):
            for hues in (2, 10):
                self.assertEqual(len(House(count, hues)), count)
        for count in (0, 17, -1, 10 ** 30):
            self.assert_fault(InvalidHouse, {"part": "count", "index": 0}, House, count, 2)
        for hues in (-2, 0, 1, 11, 10 ** 30):
            self.assert_fault(InvalidHouse, {"part": "hues", "index": 0}, House, 1, hues)

    def test_values_that_are_no_integers(self):
        for value in NO_INTEGERS:
            self.assert_fault(InvalidHouse, {"part": "count", "index": 0}, House, value, 2)
            self.assert_fault(InvalidHouse, {"part": "hues", "index": 0}, House, 1, value)

    def test_all_wires(self):
        house = House(16, 2, list(reversed(ALL_WIRES)))
        self.assertEqual(house.wires, tuple(ALL_WIRES))
        self.assertEqual(house.beneath(0), list(range(1, 16)))

    def test_bad_wires(self):
        bad = [None, True, 0, "01", "ab", [0, 1], (0,), (), (0, 1, 2), (0, 0), (0, 3), (3, 0)]
        bad += [(-1, 0), (0, -1), (True, 0), (0, True), (1, False), (None, 1), ("0", 1), ((0,), 1)]
        for wire in bad:
            fault = {"part": "wire", "index": 1}
            self.assert_fault(InvalidHouse, fault, House, 3, 2, [(0, 2), wire])
            self.assert_fault(InvalidHouse, fault, House, 3, 2, ((0, 2), wire))

    def test_duplicates_and_cycles(self):
        fault = {"part": "duplicate", "index": 2}
        self.assert_fault(InvalidHouse, fault, House, 3, 2, [(0, 1), (1, 2), (0, 1)])
        fault = {"part": "cycle", "index": 1}
        self.assert_fault(InvalidHouse, fault, House, 3, 2, [(0, 1), (1, 0)])
        fault = {"part": "cycle", "index": 2}
        self.assert_fault(InvalidHouse, fault, House, 3, 2, [(1, 2), (0, 1), (2, 0)])

    def test_first_fault(self):
        self.assert_fault(InvalidHouse, {"part": "count", "index": 0}, House, 0, 0, [None])
        self.assert_fault(InvalidHouse, {"part": "hues", "index": 0}, House, 2, 0, [None])
        faults = {
            ("duplicate", 1): [(0, 1), (0, 1), (1, 0), None],
            ("cycle", 1): [(0, 1), (1, 0), None, (0, 1)],
            ("wire", 1): [(0, 1), None, (0, 1), (1, 0)],
        }
        for (part, index), wires in faults.items():
            self.assert_fault(InvalidHouse, {"part": part, "index": index}, House, 2, 2, wires)

    def test_wires_that_were_passed(self):
        wires = [(2, 1), (1, 0)]
        house = House(3, 2, wires)
        self.assertEqual(wires, [(2, 1), (1, 0)])
        wires.clear()
        self.assertEqual(house.wires, ((1, 0), (2, 1)))
        self.assertEqual(house.beneath(2), [0, 1])


class LampsTest(FaultTest):
    """Points 7 and 8."""

    def test_beneath_and_above_agree_with_walking(self):
        for house in all_houses(4, 2):
            below = [lamps_below(house.wires, lamp) for lamp in range(4)]
            for lamp in range(4):
                self.assertEqual(house.beneath(lamp), below[lamp])
                self.assertEqual(house.above(lamp), [upper for upper in range(4) if lamp in below[upper]])
                direct = [lower for upper, lower in house.wires if upper == lamp]
                self.assertEqual(house.direct(lamp), sorted(direct))
                for other in range(4):
                    self.assertIs(house.is_beneath(other, lamp), other in below[lamp])
                    either = other in below[lamp] or lamp in below[other]
                    self.assertIs(house.is_comparable(lamp, other), either)

    def test_no_lamp_is_comparable_with_itself(self):
        house = House(2, 2, [(0, 1)])
        self.assertFalse(house.is_comparable(0, 0))
        self.assertFalse(house.is_beneath(0, 0))

    def test_order_list(self):
        self.assertEqual(House(5, 2, [(4, 0), (2, 1)]).order(), [2, 1, 3, 4, 0])
        self.assertEqual(House(4, 2, [(3, 2), (2, 0)]).order(), [1, 3, 2, 0])
        self.assertEqual(House(16, 2).order(), list(range(16)))
        self.assertEqual(House(1, 2).order(), [0])

    def test_order_list_is_the_smallest_one(self):
        for house in all_houses(3, 2):
            orders = [
                order
                for order in ([0, 1, 2], [0, 2, 1], [1, 0, 2], [1, 2, 0], [2, 0, 1], [2, 1, 0])
                if all(order.index(upper) < order.index(lower) for upper, lower in house.wires)
            ]
            self.assertEqual(house.order(), min(orders))

    def test_tops_and_bottoms(self):
        house = House(5, 2, [(4, 0), (2, 1)])
        self.assertEqual((house.tops(), house.bottoms()), ([2, 3, 4], [0, 1, 3]))
        house = House(16, 2, ALL_WIRES)
        self.assertEqual((house.tops(), house.bottoms()), ([0], [15]))

    def test_depth_is_the_longest_path(self):
        house = House(5, 2, [(3, 1), (1, 0), (3, 0), (0, 4), (2, 4)])
        self.assertEqual([house.depth(lamp) for lamp in range(5)], [2, 1, 0, 0, 3])
        house = House(16, 2, ALL_WIRES)
        self.assertEqual([house.depth(lamp) for lamp in range(16)], list(range(16)))

    def test_values_that_are_no_lamps(self):
        house = House(2, 2, [(0, 1)])
        for value in [*NO_INTEGERS, -1, 2, 10 ** 30]:
            for method in (house.beneath, house.above, house.direct, house.depth):
                self.assert_fault(InvalidLamp, {"lamp": value}, method, value)
            for method in (house.is_beneath, house.is_comparable):
                self.assert_fault(InvalidLamp, {"lamp": value}, method, value, 1)
                self.assert_fault(InvalidLamp, {"lamp": value}, method, 1, value)
                self.assert_fault(InvalidLamp, {"lamp": value}, method, value, -7)
            self.assertIs(is_lamp(house, value), False)

    def test_is_lamp(self):
        self.assertEqual([is_lamp(House(3, 2), lamp) for lamp in (0, 1, 2, 3)], [True, True, True, False])
        self.assertIs(is_lamp(House(16, 2), 15), True)

    def test_lists_are_new(self):
        house = House(3, 2, [(0, 1), (1, 2)])
        calls = [house.order, house.tops, house.bottoms]
        calls += [lambda: house.beneath(0), lambda: house.above(2), lambda: house.direct(0)]
        for call in calls:
            first = call()
            self.assertIs(type(first), list)
            kept = list(first)
            first.append(7)
            self.assertEqual(call(), kept)
        self.assertEqual(len(house), 3)


class OtherHousesTest(unittest.TestCase):
    """Point 9."""

    def test_closed(self):
        house = House(4, 3, [(0, 1), (1, 2), (3, 2)])
        self.assertEqual(house.closed(), House(4, 3, [(0, 1), (1, 2), (3, 2), (0, 2)]))

    def test_reduced(self):
        house = House(4, 3, [(0, 1), (1, 2), (3, 2), (0, 2)])
        self.assertEqual(house.reduced(), House(4, 3, [(0, 1), (1, 2), (3, 2)]))
        self.assertEqual(House(16, 2, ALL_WIRES).reduced().wires, tuple((lamp, lamp + 1) for lamp in range(15)))

    def test_same_lamps_beneath(self):
        for house in all_houses(4, 2):
            closed, reduced = house.closed(), house.reduced()
            for lamp in range(4):
                self.assertEqual(closed.beneath(lamp), house.beneath(lamp))
                self.assertEqual(closed.direct(lamp), house.beneath(lamp))
                self.assertEqual(reduced.beneath(lamp), house.beneath(lamp))
            for wire in reduced.wires:
                fewer = House(4, 2, [other for other in reduced.wires if other != wire])
                self.assertNotIn(wire[1], fewer.beneath(wire[0]))

    def test_closed_and_reduced_are_new(self):
        for house in small_houses():
            self.assertIsNot(house.closed(), house)
            self.assertIsNot(house.reduced(), house)
            self.assertEqual((house.closed().count, house.closed().hues), (house.count, house.hues))
            self.assertEqual((house.reduced().count, house.reduced().hues), (house.count, house.hues))

    def test_equality(self):
        house = House(3, 2, [(0, 1), (1, 2)])
        self.assertTrue(house == House(3, 2, ((1, 2), (0, 1))))
        self.assertFalse(house != House(3, 2, ((1, 2), (0, 1))))
        others = [House(3, 3, house.wires), House(4, 2, house.wires), House(3, 2, [(0, 1)]), house.closed()]
        for other in [*others, None, 3, "house", house.wires, (3, 2, house.wires)]:
            self.assertFalse(house == other)
            self.assertTrue(house != other)

    def test_length(self):
        self.assertEqual([len(House(count, 2)) for count in (1, 2, 16)], [1, 2, 16])

    def test_scattered(self):
        self.assertEqual(House.scattered(3, 4), House(3, 4))
        self.assertEqual(House(1, 2).scattered(16, 10), House(16, 10))


class ScatteredFaultsTest(FaultTest):
    def test_faults(self):
        for value in [*NO_INTEGERS, 0, 17, -1]:
            self.assert_fault(InvalidHouse, {"part": "count", "index": 0}, House.scattered, value, 0)
        for value in [*NO_INTEGERS, 1, 11, -1]:
            self.assert_fault(InvalidHouse, {"part": "hues", "index": 0}, House.scattered, 1, value)
