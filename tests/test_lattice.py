from itertools import combinations_with_replacement, permutations, product

from huefall.errors import InvalidState
from huefall.house import House
from huefall.lattice import is_single, join, join_all, meet, meet_all, pieces, single_count
from huefall.moebius import lowest_lit
from huefall.reach import is_reachable
from huefall.shapes import chain, floors, hillside
from huefall.states import bright_state, dark_state, mirror
from tests.helpers import (
    FaultTest,
    all_houses,
    all_states,
    great_houses,
    moves_from,
    no_states,
    reachable_pairs,
    searched,
    small_houses,
)

SMALL = [*small_houses(), *all_houses(4, 2)[::29]]
# States of 16 lamps and 10 hues that are apart in most houses.
FIRST = (3, 0, 9, 1, 0, 0, 7, 2, 0, 5, 8, 0, 0, 4, 1, 6)
SECOND = (0, 4, 9, 1, 5, 0, 2, 2, 7, 0, 0, 0, 3, 4, 9, 0)
THIRD = (3, 4, 0, 0, 0, 9, 9, 9, 1, 1, 0, 8, 0, 0, 0, 5)


class MeetAndJoinTest(FaultTest):
    """Points 55 to 57."""

    def test_example(self):
        self.assertEqual(meet(floors([2, 1], 2), (1, 0, 0), (0, 1, 1)), (0, 0, 1))

    def test_ordinary_states(self):
        house = floors([2, 1], 3)
        self.assertEqual(meet(house, (2, 0, 1), (1, 2, 2)), (1, 0, 2))
        self.assertEqual(meet(house, (1, 1, 2), (2, 1, 0)), (1, 1, 2))
        self.assertEqual(meet(house, (2, 1, 0), (1, 1, 2)), (1, 1, 2))
        self.assertEqual(join(house, (2, 0, 1), (1, 2, 2)), (2, 2, 0))
        self.assertEqual(join(house, (1, 1, 2), (2, 1, 0)), (2, 1, 0))
        self.assertEqual(join(house, (1, 0, 2), (1, 0, 1)), (1, 0, 2))

    def test_reachable_from_both_is_reachable_from_the_meet(self):
        for house in SMALL:
            states = all_states(house)
            below = {state: searched(house, state, False) for state in states}
            above = {state: {source for source in states if state in below[source]} for state in states}
            for first, second in product(states, repeat=2):
                self.assertEqual(below[meet(house, first, second)], below[first] & below[second])
                self.assertEqual(above[join(house, first, second)], above[first] & above[second])

    def test_order_of_the_arguments_and_more_than_two(self):
        for house in SMALL[::2]:
            for states in combinations_with_replacement(all_states(house)[::2], 3):
                first, second, third = states
                for function in (meet, join):
                    found = function(house, first, second, third)
                    self.assertEqual(found, function(house, function(house, first, second), third))
                    self.assertEqual({function(house, *other) for other in permutations(states)}, {found})
                    self.assertEqual(function(house, first, second, third, first, third), found)

    def test_one_state(self):
        for house in SMALL:
            for state in all_states(house):
                self.assertEqual((meet(house, state), join(house, state)), (state, state))
                self.assertEqual((meet(house, state, state), join(house, state, state)), (state, state))

    def test_laws(self):
        for house in SMALL:
            pairs = reachable_pairs(house)
            for first, second in product(all_states(house), repeat=2):
                lower, upper = meet(house, first, second), join(house, first, second)
                self.assertEqual(meet(house, first, upper), first)
                self.assertEqual(join(house, first, lower), first)
                self.assertEqual(lower == first, (second, first) in pairs)
                self.assertEqual(upper == first, (first, second) in pairs)
                flipped = mirror(house, first), mirror(house, second)
                self.assertEqual(mirror(house, lower), join(house, *flipped))
                self.assertEqual(mirror(house, upper), meet(house, *flipped))

    def test_dark_and_bright_state(self):
        for house in great_houses():
            dark, bright = dark_state(house), bright_state(house)
            self.assertEqual((meet(house, dark, FIRST), join(house, FIRST, dark)), (dark, FIRST))
            self.assertEqual((meet(house, bright, FIRST), join(house, FIRST, bright)), (FIRST, bright))

    def test_great_houses(self):
        self.assertEqual(meet(House(16, 10), FIRST, SECOND), tuple(map(min, FIRST, SECOND)))
        self.assertEqual(join(House(16, 10), FIRST, SECOND), tuple(map(max, FIRST, SECOND)))
        self.assertEqual(meet(chain(16, 10), FIRST, SECOND, THIRD), min(FIRST, SECOND, THIRD))
        self.assertEqual(join(chain(16, 10), FIRST, SECOND, THIRD), max(FIRST, SECOND, THIRD))
        # The smaller hues of the first floor differ from both states.
        self.assertEqual(meet(floors([4, 12], 10), FIRST, SECOND), (0, 0, 9, 1) + (9,) * 12)
        self.assertEqual(join(floors([4, 12], 10), FIRST, SECOND), (3, 4, 9, 1) + (0,) * 12)
        for house in great_houses():
            lower, upper = meet(house, FIRST, SECOND, THIRD), join(house, FIRST, SECOND, THIRD)
            for state in (FIRST, SECOND, THIRD):
                self.assertTrue(is_reachable(house, state, lower))
                self.assertTrue(is_reachable(house, upper, state))

    def test_values_that_are_no_states(self):
        house = chain(2, 3)
        for function in (meet, join):
            self.assert_checks_states(house, function, 1)
            self.assert_checks_states(house, function, 2)
            self.assert_checks_states(house, function, 4)


class ListsTest(FaultTest):
    """Point 61: the joins and meets of lists."""

    def test_lists_of_states(self):
        for house in great_houses():
            dark, bright = dark_state(house), bright_state(house)
            self.assertEqual((join_all(house, []), meet_all(house, [])), (dark, bright))
            self.assertEqual((join_all(house, [FIRST]), meet_all(house, [FIRST])), (FIRST, FIRST))
            self.assertEqual(join_all(house, [FIRST, SECOND, THIRD]), join(house, FIRST, SECOND, THIRD))
            self.assertEqual(meet_all(house, [FIRST, SECOND, THIRD]), meet(house, FIRST, SECOND, THIRD))

    def test_lists_of_all_states(self):
        for house in SMALL:
            states = all_states(house)
            self.assertEqual(join_all(house, states), bright_state(house))
            self.assertEqual(meet_all(house, states), dark_state(house))

    def test_the_list_is_not_changed(self):
        states = [(1, 0), (0, 1)]
        join_all(chain(2, 2), states)
        meet_all(chain(2, 2), states)
        self.assertEqual(states, [(1, 0), (0, 1)])

    def test_first_item_that_is_no_state(self):
        house = chain(2, 3)
        for value in no_states(house):
            for states in ([value], [(0, 0), value, "later"], [value, "later"]):
                for function in (join_all, meet_all):
                    self.assert_fault(InvalidState, {"state": value}, function, house, states)


class PiecesTest(FaultTest):
    """Point 61."""

    def test_example(self):
        self.assertEqual(pieces(floors([2, 1], 2), (1, 1, 0)), [(1, 0, 0), (0, 1, 0)])

    def test_ordinary_pieces(self):
        house = House(5, 3, [(3, 1), (4, 1), (1, 0)])
        self.assertEqual(pieces(house, (0, 2, 1, 1, 2)), [(0, 2, 0, 1, 2), (0, 0, 1, 0, 0)])
        self.assertEqual(pieces(house, (0, 0, 0, 1, 2)), [(0, 0, 0, 1, 0), (0, 0, 0, 0, 2)])
        self.assertEqual(pieces(house, (0, 0, 0, 0, 0)), [])

    def test_the_state_is_the_join_of_all_its_pieces_only(self):
        for house in [*SMALL, hillside(2, 2, 3)]:
            for state in all_states(house):
                found = pieces(house, state)
                self.assertEqual(len(found), len(lowest_lit(house, state)))
                self.assertEqual(join_all(house, found), state)
                for left_out in range(len(found)):
                    others = found[:left_out] + found[left_out + 1:]
                    self.assertNotEqual(join_all(house, others), state)

    def test_great_houses(self):
        for house in great_houses():
            for state in (FIRST, SECOND, THIRD, bright_state(house), dark_state(house)):
                found = pieces(house, state)
                self.assertEqual(join_all(house, found), state)
                self.assertTrue(all(is_single(house, piece) for piece in found))

    def test_lists_are_new(self):
        pieces(chain(2, 2), (1, 1)).clear()
        self.assertEqual(pieces(chain(2, 2), (1, 1)), [(1, 1)])

    def test_values_that_are_no_states(self):
        self.assert_checks_states(chain(2, 3), pieces, 1)


class SingleTest(FaultTest):
    """Point 62."""

    def test_covers_exactly_one_state(self):
        for house in SMALL:
            for state in all_states(house):
                self.assertIs(is_single(house, state), len(moves_from(house, state, True)) == 1)
                self.assertTrue(all(is_single(house, piece) for piece in pieces(house, state)))

    def test_all_other_states_are_reachable_from_the_one_it_covers(self):
        for house in SMALL:
            for state in all_states(house):
                if is_single(house, state):
                    ((_, other),) = moves_from(house, state, True)
                    self.assertEqual(searched(house, state, False) - {state}, searched(house, other, False))

    def test_count(self):
        for house in [*SMALL, hillside(2, 3, 2), floors([1, 2, 1], 4)]:
            self.assertEqual(single_count(house), sum(is_single(house, state) for state in all_states(house)))

    def test_great_houses(self):
        self.assertEqual(single_count(House(16, 10)), 16 * 9)
        self.assertEqual(single_count(chain(16, 10)), 10 ** 16 - 1)
        self.assertEqual(single_count(floors([4, 4, 4, 4], 10)), 36 * (1 + 10 ** 4 + 10 ** 8 + 10 ** 12))
        self.assertIs(is_single(chain(16, 10), bright_state(chain(16, 10))), True)
        self.assertIs(is_single(House(16, 10), bright_state(House(16, 10))), False)
        self.assertIs(is_single(House(16, 10), dark_state(House(16, 10))), False)

    def test_values_that_are_no_states(self):
        self.assert_checks_states(chain(2, 3), is_single, 1)
