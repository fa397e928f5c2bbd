from huefall.errors import InvalidState
from huefall.house import House
from huefall.reach import compare, is_reachable, obstacle, topmost_differences, witnesses
from huefall.shapes import chain, floors
from huefall.states import bright_state, dark_state, mirror
from tests.helpers import FaultTest, all_houses, all_states, lamps_below, no_states, reachable_pairs, small_houses

SMALL = small_houses()
FUNCTIONS = [topmost_differences, is_reachable, obstacle, compare, witnesses]


class ReachTest(FaultTest):
    """Points 2 and 23 to 25."""

    def test_agrees_with_a_search_that_only_makes_moves(self):
        for house in [*SMALL, *all_houses(4, 2)[::17]]:
            free = reachable_pairs(house)
            self.assertEqual(reachable_pairs(house, careful=True), free)
            for source in all_states(house):
                for target in all_states(house):
                    self.assertIs(is_reachable(house, source, target), (source, target) in free)

    def test_topmost_differences(self):
        house = House(5, 3, [(4, 0), (0, 2), (1, 2)])
        self.assertEqual(topmost_differences(house, (0, 0, 0, 0, 0), (1, 1, 1, 1, 1)), [1, 3, 4])
        self.assertEqual(topmost_differences(house, (0, 0, 0, 0, 0), (1, 0, 1, 0, 0)), [0])
        self.assertEqual(topmost_differences(house, (0, 0, 0, 0, 0), (0, 0, 1, 0, 0)), [2])
        self.assertEqual(topmost_differences(house, (0, 0, 1, 0, 0), (0, 0, 0, 0, 2)), [4])
        self.assertEqual(topmost_differences(house, (0, 1, 2, 0, 0), (0, 1, 2, 0, 0)), [])

    def test_topmost_differences_and_obstacle_by_their_definition(self):
        for house in SMALL:
            below = [lamps_below(house.wires, lamp) for lamp in range(house.count)]
            for source in all_states(house):
                for target in all_states(house):
                    differ = [lamp for lamp in range(house.count) if source[lamp] != target[lamp]]
                    topmost = [lamp for lamp in differ if not any(lamp in below[upper] for upper in differ)]
                    self.assertEqual(topmost_differences(house, source, target), topmost)
                    brighter = [lamp for lamp in topmost if target[lamp] > source[lamp]]
                    self.assertEqual(obstacle(house, source, target), min(brighter, default=None))

    def test_obstacle(self):
        house = House(3, 3, [(2, 0)])
        self.assertEqual(obstacle(house, (0, 0, 1), (2, 1, 0)), 1)
        self.assertEqual(obstacle(house, (0, 0, 0), (1, 1, 1)), 1)
        self.assertEqual(obstacle(house, (0, 0, 0), (1, 0, 1)), 2)
        self.assertIsNone(obstacle(house, (0, 0, 1), (2, 0, 0)))
        self.assertIsNone(obstacle(house, (1, 1, 1), (1, 1, 1)))

    def test_reachability_is_an_order(self):
        for house in SMALL:
            states = all_states(house)
            for first in states:
                self.assertTrue(is_reachable(house, first, first))
                self.assertTrue(is_reachable(house, first, dark_state(house)))
                self.assertTrue(is_reachable(house, bright_state(house), first))
                reached = [state for state in states if is_reachable(house, first, state)]
                for second in reached:
                    self.assertEqual(is_reachable(house, second, first), first == second)
                    self.assertTrue(is_reachable(house, mirror(house, second), mirror(house, first)))
                    for third in states:
                        if is_reachable(house, second, third):
                            self.assertIn(third, reached)

    def test_a_house_of_16_lamps(self):
        house = floors([4, 4, 4, 4], 10)
        dark, bright = dark_state(house), bright_state(house)
        self.assertTrue(is_reachable(house, bright, dark))
        self.assertFalse(is_reachable(house, dark, bright))
        self.assertEqual(topmost_differences(house, dark, bright), [0, 1, 2, 3])
        low = (0,) * 15 + (1,)
        self.assertEqual(obstacle(house, dark, low), 15)
        self.assertTrue(is_reachable(house, (1,) + (0,) * 15, (0,) * 4 + (9,) * 12))

    def test_lists_are_new(self):
        topmost_differences(chain(2, 2), (0, 0), (1, 0)).append(1)
        self.assertEqual(topmost_differences(chain(2, 2), (0, 0), (1, 0)), [0])

    def test_values_that_are_no_states(self):
        house = chain(3, 3)
        for function in FUNCTIONS:
            for value in no_states(house):
                self.assert_fault(InvalidState, {"state": value}, function, house, value, (0, 0, 0))
                self.assert_fault(InvalidState, {"state": value}, function, house, (0, 0, 0), value)
                self.assert_fault(InvalidState, {"state": value}, function, house, value, "later")


class CompareTest(FaultTest):
    """Point 28."""

    def test_four_words(self):
        house = floors([2, 1], 3)
        self.assertEqual(compare(house, (1, 0, 2), (1, 0, 2)), "same")
        self.assertEqual(compare(house, (1, 0, 0), (0, 0, 2)), "down")
        self.assertEqual(compare(house, (0, 0, 2), (1, 0, 0)), "up")
        self.assertEqual(compare(house, (1, 0, 2), (0, 1, 2)), "apart")

    def test_witnesses(self):
        house = floors([2, 1], 3)
        self.assertEqual(witnesses(house, (1, 0, 2), (0, 1, 2)), (1, 0))
        self.assertEqual(witnesses(house, (0, 1, 2), (1, 0, 2)), (0, 1))
        for second in ((1, 0, 2), (0, 0, 2), (2, 0, 2)):
            self.assertIsNone(witnesses(house, (1, 0, 2), second))

    def test_agrees_with_search(self):
        for house in SMALL:
            pairs = reachable_pairs(house)
            for first in all_states(house):
                for second in all_states(house):
                    ways = ((first, second) in pairs, (second, first) in pairs)
                    words = {(True, True): "same", (True, False): "down", (False, True): "up"}
                    word = words.get(ways, "apart")
                    self.assertEqual(compare(house, first, second), word)
                    lamps = (obstacle(house, first, second), obstacle(house, second, first))
                    self.assertEqual(witnesses(house, first, second), lamps if word == "apart" else None)
