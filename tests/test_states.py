from itertools import product

from huefall.errors import InvalidNumber, InvalidState
from huefall.house import House
from huefall.shapes import chain, stairs
from huefall.states import bright_state, dark_state, is_state, lit_lamps, mirror, number_of, state_of
from tests.helpers import NO_INTEGERS, FaultTest, all_states, reachable_pairs, small_houses

NO_STATES = [None, True, 0, "00", [0, 0], (0,), (0, 0, 0), (), (0, 3), (0, -1), (0, True), (False, 0)]
NO_STATES += [(0, None), (0, "0"), (0, (0,)), (0, [0]), ((0, 0),), (0, 1.0), {0: 0}, (0, 10 ** 30)]


class StatesTest(FaultTest):
    """Point 12."""

    def test_is_state(self):
        house = chain(2, 3)
        for state in product(range(3), repeat=2):
            self.assertIs(is_state(house, state), True)
        for value in NO_STATES:
            self.assertIs(is_state(house, value), False)

    def test_states_of_the_edges(self):
        for count, hues in ((1, 2), (16, 2), (1, 10), (16, 10)):
            house = House(count, hues)
            self.assertEqual(dark_state(house), (0,) * count)
            self.assertEqual(bright_state(house), (hues - 1,) * count)
            self.assertFalse(is_state(house, (hues,) * count))

    def test_mirror(self):
        self.assertEqual(mirror(chain(3, 4), (0, 1, 3)), (3, 2, 0))
        house = House(16, 10)
        self.assertEqual(mirror(house, dark_state(house)), bright_state(house))

    def test_lit_lamps(self):
        self.assertEqual(lit_lamps(chain(4, 3), (0, 2, 0, 1)), [1, 3])
        self.assertEqual(lit_lamps(chain(2, 3), (0, 0)), [])
        lit_lamps(chain(2, 3), (1, 0)).append(1)
        self.assertEqual(lit_lamps(chain(2, 3), (1, 0)), [0])

    def test_values_that_are_no_states(self):
        house = chain(2, 3)
        for value in NO_STATES:
            for function in (mirror, lit_lamps, number_of):
                self.assert_fault(InvalidState, {"state": value}, function, house, value)

    def test_the_given_value_is_in_the_error(self):
        value = [0, 0]
        with self.assertRaises(InvalidState) as caught:
            mirror(chain(2, 3), value)
        self.assertIs(caught.exception.state, value)


class NumbersTest(FaultTest):
    """Point 48."""

    def test_digits_along_the_order_list(self):
        house = House(3, 3, [(2, 0)])
        self.assertEqual(house.order(), [1, 2, 0])
        self.assertEqual(number_of(house, (1, 2, 0)), 2 * 9 + 0 * 3 + 1)
        self.assertEqual(state_of(house, 2 * 9 + 0 * 3 + 1), (1, 2, 0))

    def test_first_lamp_is_the_highest_digit(self):
        self.assertEqual(number_of(stairs([None, 0, 0], 10), (1, 2, 3)), 123)
        self.assertEqual(state_of(chain(16, 10), 10 ** 15), (1,) + (0,) * 15)

    def test_each_number_belongs_to_one_state(self):
        for house in small_houses():
            states = all_states(house)
            self.assertEqual(sorted(number_of(house, state) for state in states), list(range(len(states))))
            for state in states:
                self.assertEqual(state_of(house, number_of(house, state)), state)

    def test_reachable_states_have_smaller_numbers(self):
        for house in small_houses():
            for source, target in reachable_pairs(house):
                if source != target:
                    self.assertLess(number_of(house, target), number_of(house, source))

    def test_first_and_last_number(self):
        for house in (House(1, 2), chain(16, 10)):
            last = house.hues ** house.count - 1
            self.assertEqual(state_of(house, 0), dark_state(house))
            self.assertEqual(state_of(house, last), bright_state(house))
            self.assertEqual(number_of(house, bright_state(house)), last)
            self.assert_fault(InvalidNumber, {"number": last + 1}, state_of, house, last + 1)

    def test_values_that_are_no_numbers(self):
        for value in [*NO_INTEGERS, -1, 9, 10 ** 1000]:
            self.assert_fault(InvalidNumber, {"number": value}, state_of, chain(2, 3), value)
