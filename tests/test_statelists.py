from itertools import combinations

from huefall.errors import InvalidState
from huefall.house import House
from huefall.reach import compare
from huefall.shapes import chain, floors, hillside
from huefall.statelists import layers, longest_chain, lowermost, sort_states, uppermost
from huefall.states import bright_state, dark_state, number_of
from tests.helpers import FaultTest, all_states, no_states, reachable_pairs, small_houses

FUNCTIONS = [sort_states, uppermost, lowermost, longest_chain, layers]


def lists_of(states):
    """Some lists of these states, of many lengths, some with a state twice."""
    lists = [[], states, states[::-1], states[::2] + states[::3], states[1::3]]
    return lists + [list(pair) for pair in combinations(states[:5], 2)]


class StateListsTest(FaultTest):
    """Points 29 and 30."""

    def test_ordinary_list(self):
        house = floors([2, 1], 2)
        states = [(0, 0, 1), (0, 1, 1), (1, 0, 0), (0, 0, 1), (0, 0, 0)]
        ordered = [(1, 0, 0), (0, 1, 1), (0, 0, 1), (0, 0, 1), (0, 0, 0)]
        self.assertEqual(sort_states(house, states), ordered)
        self.assertEqual(uppermost(house, states), [(1, 0, 0), (0, 1, 1)])
        self.assertEqual(lowermost(house, states), [(0, 0, 0)])
        self.assertEqual(longest_chain(house, states), [(1, 0, 0), (0, 0, 1), (0, 0, 0)])
        self.assertEqual(layers(house, states), [[(1, 0, 0), (0, 1, 1)], [(0, 0, 1)], [(0, 0, 0)]])

    def test_empty_list(self):
        for function in FUNCTIONS:
            self.assertEqual(function(chain(2, 2), []), [])

    def test_the_same_state_twice(self):
        house, states = chain(2, 2), [(0, 1), (0, 1)]
        self.assertEqual(sort_states(house, states), states)
        self.assertEqual(layers(house, states), [[(0, 1)]])
        for function in (uppermost, lowermost, longest_chain):
            self.assertEqual(function(house, states), [(0, 1)])

    def test_order_is_that_of_numbers(self):
        house = House(3, 2, [(2, 0)])
        states = [(1, 0, 0), (0, 1, 0), (0, 0, 1)]
        self.assertEqual(sort_states(house, states), [(0, 1, 0), (0, 0, 1), (1, 0, 0)])
        self.assertEqual(uppermost(house, states), [(0, 1, 0), (0, 0, 1)])
        self.assertEqual(lowermost(house, states), [(0, 1, 0), (1, 0, 0)])
        self.assertEqual(longest_chain(House(3, 2), states), [(1, 0, 0)])

    def test_by_their_definitions(self):
        for house in small_houses():
            pairs = reachable_pairs(house)
            for states in lists_of(all_states(house)):
                ordered = sorted(states, key=lambda state: number_of(house, state), reverse=True)
                self.assertEqual(sort_states(house, states), ordered)
                different = list(dict.fromkeys(ordered))
                above = {state: [other for other in different if (other, state) in pairs] for state in different}
                below = {state: [other for other in different if (state, other) in pairs] for state in different}
                tops = [state for state in different if above[state] == [state]]
                self.assertEqual(uppermost(house, states), tops)
                bottoms = [state for state in different if below[state] == [state]]
                self.assertEqual(lowermost(house, states), bottoms)
                layer = {}
                for state in different:
                    layer[state] = max([layer[other] + 1 for other in above[state] if other != state], default=0)
                deepest = max(layer.values(), default=-1)
                expected = [[state for state in different if layer[state] == at] for at in range(deepest + 1)]
                self.assertEqual(layers(house, states), expected)

    def test_longest_chain_is_the_first_of_the_longest(self):
        for house in small_houses():
            pairs = reachable_pairs(house)
            for states in lists_of(all_states(house)[:9]):
                different = sort_states(house, sorted(set(states)))
                chains = [[]]
                for found in chains:
                    for state in different:
                        if not found or ((found[-1], state) in pairs and found[-1] != state):
                            chains.append([*found, state])
                longest = [found for found in chains if len(found) == len(chains[-1])]
                numbers = [[number_of(house, state) for state in found] for found in longest]
                result = longest_chain(house, states)
                self.assertEqual([number_of(house, state) for state in result], max(numbers))
                self.assertEqual(len(result), len(layers(house, states)))

    def test_no_two_states_of_a_layer_compare(self):
        house = hillside(2, 2, 2)
        for layer in layers(house, all_states(house)):
            for first, second in combinations(layer, 2):
                self.assertEqual(compare(house, first, second), "apart")

    def test_a_house_of_16_lamps(self):
        house = chain(16, 10)
        states = [dark_state(house), bright_state(house), (1,) * 16]
        self.assertEqual(longest_chain(house, states), [bright_state(house), (1,) * 16, dark_state(house)])
        house = House(16, 10)
        units = [tuple(int(lamp == lit) for lamp in range(16)) for lit in range(16)]
        self.assertEqual(layers(house, units), [units])

    def test_lists(self):
        house = chain(2, 2)
        for function in FUNCTIONS:
            states = [(0, 0), (1, 0), (0, 0)]
            first = function(house, states)
            self.assertEqual(states, [(0, 0), (1, 0), (0, 0)])
            kept = list(first)
            first.clear()
            self.assertEqual(function(house, states), kept)
        layers(house, [(0, 0)])[0].clear()
        self.assertEqual(layers(house, [(0, 0)]), [[(0, 0)]])

    def test_first_item_that_is_no_state(self):
        house = chain(3, 3)
        for function in FUNCTIONS:
            for value in no_states(house):
                states = [(0, 0, 0), (1, 1, 1), value, "later"]
                self.assert_fault(InvalidState, {"state": value}, function, house, states)
                self.assert_fault(InvalidState, {"state": value}, function, house, [value])
