from huefall.errors import DarkLamp, InvalidLamp, InvalidState, LitBeneath
from huefall.house import House
from huefall.moves import after, allowed_lamps, before, is_allowed
from huefall.shapes import chain
from huefall.states import bright_state, dark_state
from tests.helpers import FaultTest, all_states, moves_from, no_lamps, no_states, small_houses

SMALL = small_houses()


class MovesTest(FaultTest):
    """Points 15 to 17."""

    def test_hues_after_a_free_move(self):
        house = House(4, 3, [(1, 0), (0, 3)])
        self.assertEqual(after(house, (0, 2, 1, 1), 1), (2, 1, 1, 0))
        self.assertEqual(after(house, (2, 2, 1, 0), 0), (1, 2, 1, 2))
        self.assertEqual(after(house, (2, 2, 1, 0), 2), (2, 2, 0, 0))

    def test_careful_moves(self):
        house = House(4, 3, [(1, 0), (0, 3)])
        self.assertEqual(after(house, (0, 2, 1, 0), 1, careful=True), (2, 1, 1, 2))
        self.assertEqual(allowed_lamps(house, (0, 2, 1, 0), careful=True), [1, 2])
        self.assertEqual(allowed_lamps(house, (1, 2, 1, 1), careful=True), [2, 3])
        self.assertEqual(allowed_lamps(house, (1, 2, 1, 1)), [0, 1, 2, 3])

    def test_agrees_with_moves_made_by_hand(self):
        for house in SMALL:
            for state in all_states(house):
                for careful in (False, True):
                    moves = dict(moves_from(house, state, careful))
                    self.assertEqual(allowed_lamps(house, state, careful=careful), list(moves))
                    for lamp in range(house.count):
                        self.assertIs(is_allowed(house, state, lamp, careful=careful), lamp in moves)
                        if lamp in moves:
                            self.assertEqual(after(house, state, lamp, careful=careful), moves[lamp])

    def test_free_moves_are_the_default(self):
        house = chain(2, 2)
        self.assertTrue(is_allowed(house, (1, 1), 0))
        self.assertEqual(allowed_lamps(house, (1, 1)), [0, 1])
        self.assertEqual(after(house, (1, 1), 0), (0, 0))
        self.assertEqual(before(house, (0, 0), 0), (1, 1))

    def test_dark_and_bright_state_of_a_great_house(self):
        house = chain(16, 10)
        self.assertEqual(allowed_lamps(house, dark_state(house)), [])
        self.assertEqual(allowed_lamps(house, bright_state(house)), list(range(16)))
        self.assertEqual(allowed_lamps(house, bright_state(house), careful=True), [15])
        self.assertEqual(after(house, (1,) + (0,) * 15, 0, careful=True), (0,) + (9,) * 15)

    def test_refused_moves(self):
        house = House(4, 2, [(2, 3), (2, 1), (1, 0)])
        for careful in (False, True):
            fault = {"lamp": 2, "step": 0}
            self.assert_fault(DarkLamp, fault, after, house, (0, 1, 0, 1), 2, careful=careful)
        fault = {"lamp": 2, "step": 0, "lower": 1}
        self.assert_fault(LitBeneath, fault, after, house, (0, 1, 1, 1), 2, careful=True)
        fault = {"lamp": 2, "step": 0, "lower": 0}
        self.assert_fault(LitBeneath, fault, after, house, (1, 0, 1, 1), 2, careful=True)

    def test_lists_are_new(self):
        allowed_lamps(chain(2, 2), (1, 1)).clear()
        self.assertEqual(allowed_lamps(chain(2, 2), (1, 1)), [0, 1])

    def test_values_that_are_no_states_or_lamps(self):
        house = House(3, 3, [(2, 0), (2, 1)])
        for function in (is_allowed, after, before):
            for value in no_states(house):
                self.assert_fault(InvalidState, {"state": value}, function, house, value, "no lamp")
                self.assert_fault(InvalidState, {"state": value}, allowed_lamps, house, value)
            for value in no_lamps(house):
                # The lamps of the state are dark, so a later check would refuse the move instead.
                self.assert_fault(InvalidLamp, {"lamp": value}, function, house, (0, 0, 0), value)
                self.assert_fault(InvalidLamp, {"lamp": value}, function, house, (1, 1, 1), value, careful=True)


class BackwardsTest(FaultTest):
    """Point 19."""

    def test_before_free_moves(self):
        house = House(4, 3, [(1, 0), (0, 3)])
        self.assertEqual(before(house, (2, 1, 1, 0), 1), (0, 2, 1, 1))
        self.assertIsNone(before(house, (2, 2, 1, 0), 1))

    def test_before_careful_moves(self):
        house = chain(3, 3)
        self.assertEqual(before(house, (1, 2, 2), 0, careful=True), (2, 0, 0))
        self.assertIsNone(before(house, (1, 2, 1), 0, careful=True))
        self.assertIsNone(before(house, (2, 2, 2), 0, careful=True))
        self.assertEqual(before(house, (0, 0, 0), 2, careful=True), (0, 0, 1))

    def test_agrees_with_moves_made_by_hand(self):
        for house in SMALL:
            for careful in (False, True):
                earlier = {}
                for state in all_states(house):
                    for lamp, other in moves_from(house, state, careful):
                        self.assertNotIn((other, lamp), earlier)
                        earlier[other, lamp] = state
                for state in all_states(house):
                    for lamp in range(house.count):
                        found = before(house, state, lamp, careful=careful)
                        self.assertEqual(found, earlier.get((state, lamp)))
