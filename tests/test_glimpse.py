from itertools import product

from huefall.counting import lower_count
from huefall.errors import InvalidGlimpse, InvalidState, NotReachable
from huefall.glimpse import blocked_lamp, can_follow, match_count, matches, matching_state
from huefall.house import House
from huefall.reach import is_reachable
from huefall.shapes import chain, floors, hillside
from huefall.states import bright_state, dark_state
from tests.helpers import (
    NO_INTEGERS,
    FaultTest,
    all_houses,
    all_states,
    great_houses,
    lamps_below,
    no_states,
    no_values_of_a_tuple,
    searched,
    small_houses,
)

SMALL = [*small_houses(), *all_houses(4, 2)[::97]]
NO_HUES = [item for item in NO_INTEGERS if item is not None]


def all_glimpses(house):
    """Every glimpse of the house."""
    return list(product([None, *range(house.hues)], repeat=house.count))


def is_seen(glimpse, state):
    """True if the state matches the glimpse."""
    return all(seen is None or seen == hue for seen, hue in zip(glimpse, state))


def no_glimpses(house):
    """Values that are not glimpses of the house."""
    return no_values_of_a_tuple((None,) * house.count, [*NO_HUES, -1, house.hues, 10 ** 30])


def blocked_by_the_words(house, state, glimpse):
    """The blocked lamp as point 71 tells it."""
    for lamp in range(house.count):
        above = [upper for upper in range(house.count) if lamp in lamps_below(house.wires, upper)]
        held = all(glimpse[upper] == state[upper] or (glimpse[upper] is None and state[upper] == 0) for upper in above)
        if glimpse[lamp] is not None and glimpse[lamp] > state[lamp] and held:
            return lamp
    return None


def built_by_the_words(house, state, glimpse):
    """The matching state as point 72 tells it."""
    found = {}
    for lamp in house.order():
        released = any(found[upper] != state[upper] for upper in found if lamp in lamps_below(house.wires, upper))
        if glimpse[lamp] is not None:
            found[lamp] = glimpse[lamp]
        elif released:
            found[lamp] = house.hues - 1
        else:
            found[lamp] = state[lamp] - 1 if state[lamp] else 0
    return tuple(found[lamp] for lamp in range(house.count))


class MatchesTest(FaultTest):
    """Point 70."""

    def test_matches(self):
        house = chain(3, 3)
        self.assertIs(matches(house, (1, None, 0), (1, 2, 0)), True)
        self.assertIs(matches(house, (1, None, 0), (1, 2, 1)), False)
        self.assertIs(matches(house, (None, None, 0), (2, 2, 0)), True)
        self.assertIs(matches(house, (0, None, None), (1, 2, 1)), False)

    def test_nothing_and_everything_seen(self):
        for house in SMALL:
            for state in all_states(house):
                self.assertIs(matches(house, (None,) * house.count, state), True)
                for other in all_states(house):
                    self.assertIs(matches(house, other, state), state == other)

    def test_order_of_the_checks(self):
        house = chain(3, 3)
        for value in no_glimpses(house):
            self.assert_fault(InvalidGlimpse, {"glimpse": value}, matches, house, value, "no state")
        for value in no_states(house):
            self.assert_fault(InvalidState, {"state": value}, matches, house, (None, 0, 2), value)


class FollowTest(FaultTest):
    """Points 71 and 72."""

    def test_ordinary_glimpses(self):
        house = chain(3, 3)
        self.assertIs(can_follow(house, (1, 0, 0), (0, 2, None)), True)
        self.assertIsNone(blocked_lamp(house, (1, 0, 0), (0, 2, None)))
        self.assertEqual(matching_state(house, (1, 0, 0), (0, 2, None)), (0, 2, 2))
        self.assertEqual(match_count(house, (1, 0, 0), (0, 2, None)), 3)
        self.assertIs(can_follow(house, (1, 0, 0), (1, 2, None)), False)
        self.assertEqual(blocked_lamp(house, (1, 0, 0), (1, 2, None)), 1)
        self.assertEqual(match_count(house, (1, 0, 0), (1, 2, None)), 0)
        # The lamp above is not seen and lit, so it may have been turned down.
        self.assertIs(can_follow(house, (1, 0, 0), (None, 2, None)), True)
        self.assertEqual(matching_state(house, (1, 0, 0), (None, 2, None)), (0, 2, 2))
        # It is not seen and dark, so it was not.
        self.assertEqual(blocked_lamp(house, (0, 0, 2), (None, 2, None)), 1)
        self.assertEqual(matching_state(house, (2, 2, 0), (None, None, None)), (1, 2, 2))

    def test_the_smallest_blocked_lamp(self):
        # The order list is 1, 2, 0.
        house = House(3, 2, [(2, 0)])
        self.assertEqual(blocked_lamp(house, (0, 0, 0), (1, 1, 0)), 0)
        self.assertEqual(blocked_lamp(house, (0, 0, 0), (None, 1, 1)), 1)
        self.assertEqual(blocked_lamp(house, (0, 0, 0), (1, None, 1)), 2)
        self.assertEqual(blocked_lamp(house, (0, 0, 0), (1, None, None)), 0)
        self.assertIsNone(blocked_lamp(house, (0, 0, 1), (1, None, None)))

    def test_agree_with_search_over_all_states(self):
        for house in SMALL:
            for state in all_states(house):
                below = searched(house, state, False)
                for glimpse in all_glimpses(house):
                    self.check_glimpse_by_search(house, state, glimpse, below)

    def check_glimpse_by_search(self, house, state, glimpse, below):
        seen = [other for other in below if is_seen(glimpse, other)]
        blocked = blocked_by_the_words(house, state, glimpse)
        self.assertIs(can_follow(house, state, glimpse), len(seen) > 0)
        self.assertEqual(match_count(house, state, glimpse), len(seen))
        self.assertEqual(blocked_lamp(house, state, glimpse), blocked)
        self.assertEqual(blocked is None, len(seen) > 0)
        if seen:
            found = matching_state(house, state, glimpse)
            self.assertIn(found, seen)
            self.assertEqual(found, built_by_the_words(house, state, glimpse))
        else:
            self.assert_fault(NotReachable, {"lamp": blocked}, matching_state, house, state, glimpse)

    def test_nothing_seen(self):
        for house in [*SMALL, *great_houses()]:
            unseen = (None,) * house.count
            for state in (dark_state(house), bright_state(house)):
                self.assertIs(can_follow(house, state, unseen), True)
                self.assertEqual(match_count(house, state, unseen), lower_count(house, state))
                self.assertTrue(is_reachable(house, state, matching_state(house, state, unseen)))

    def test_everything_seen(self):
        for house in [*SMALL, *great_houses()]:
            dark, bright = dark_state(house), bright_state(house)
            self.assertEqual(matching_state(house, bright, dark), dark)
            self.assertEqual(match_count(house, bright, dark), 1)
            self.assertEqual(match_count(house, dark, bright), 0)
            self.assertEqual(match_count(house, dark, dark), 1)
            self.assertIs(can_follow(house, dark, bright), False)
            self.assert_fault(NotReachable, {"lamp": min(house.tops())}, matching_state, house, dark, bright)

    def test_houses_of_16_lamps(self):
        house = House(16, 10)
        glimpse = (None,) * 8 + tuple(range(8))
        self.assertEqual(match_count(house, (9,) * 16, glimpse), 10 ** 8)
        self.assertEqual(match_count(house, (4,) * 16, (None,) * 12 + (4, 3, 0, 1)), 5 ** 12)
        self.assertEqual(blocked_lamp(house, (4,) * 16, glimpse), 13)
        house = chain(16, 10)
        self.assertEqual(match_count(house, (5,) * 16, (None,) * 15 + (9,)), 5 * (10 ** 15 - 1) // 9)
        self.assertEqual(match_count(house, (5,) * 16, (4,) + (None,) * 15), 10 ** 15)
        house = floors([4, 4, 4, 4], 10)
        # Either the lamps of the first floor are kept, or the others are free.
        glimpse = (None,) * 4 + (9,) * 12
        self.assertEqual(match_count(house, (1,) * 16, glimpse), 2 ** 4 - 1)
        self.assertEqual(match_count(house, (1,) * 4 + (9,) * 12, glimpse), 2 ** 4)
        house = hillside(4, 4, 10)
        self.assertEqual(match_count(house, (1,) * 16, (0,) + (None,) * 15), 10 ** 15)
        # The 11 lamps beneath lamp 1 are free, and the three others are a chain.
        self.assertEqual(match_count(house, (1,) * 16, (1, 0) + (None,) * 14), 10 ** 11 * 112)

    def test_order_of_the_checks(self):
        house = floors([2, 1], 3)
        for function in (can_follow, blocked_lamp, matching_state, match_count):
            for value in no_states(house):
                self.assert_fault(InvalidState, {"state": value}, function, house, value, "no glimpse")
            for value in no_glimpses(house):
                self.assert_fault(InvalidGlimpse, {"glimpse": value}, function, house, (0, 0, 0), value)
