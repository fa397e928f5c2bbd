from itertools import product

from huefall.counting import lower_count
from huefall.errors import InvalidState, TooMany
from huefall.house import House
from huefall.lattice import join, meet
from huefall.lengths import length_range
from huefall.listing import each_below
from huefall.reach import is_reachable
from huefall.search import plain_join, plain_lengths, plain_meet, plain_reachable
from huefall.shapes import chain, floors, hillside
from huefall.states import bright_state, dark_state, number_of
from tests.helpers import FaultTest, all_houses, all_states, great_houses, moves_from, no_states, searched, small_houses

SMALL = [*small_houses(), *all_houses(4, 2)[::97]]


def lengths_by_runs(house, source, target, careful):
    """The lengths of all runs between two states, found by going through the runs."""
    found = {0} if source == target else set()
    for _, other in moves_from(house, source, careful):
        found |= {length + 1 for length in lengths_by_runs(house, other, target, careful)}
    return found


class ReachableTest(FaultTest):
    """Point 89."""

    def test_ordinary_lists(self):
        house = floors([2, 1], 2)
        self.assertEqual(plain_reachable(house, (1, 0, 0)), [(1, 0, 0), (0, 0, 1), (0, 0, 0)])
        self.assertEqual(plain_reachable(house, (1, 0, 0), careful=True), [(1, 0, 0), (0, 0, 1), (0, 0, 0)])
        self.assertEqual(plain_reachable(house, (0, 0, 0)), [(0, 0, 0)])

    def test_agree_with_search_and_with_the_other_functions(self):
        for house in [*SMALL, hillside(2, 3, 2)]:
            for state in all_states(house):
                found = plain_reachable(house, state)
                self.assertEqual(set(found), searched(house, state, False))
                self.assertEqual(found, list(each_below(house, state)))
                self.assertEqual(plain_reachable(house, state, careful=True), found)
                self.assertEqual(len(found), lower_count(house, state))
                numbers = [number_of(house, other) for other in found]
                self.assertEqual(numbers, sorted(numbers, reverse=True))

    def test_limit(self):
        house = House(12, 2, [(lamp, lamp + 1) for lamp in range(6)])
        self.assertEqual(len(plain_reachable(house, bright_state(house))), 4096)
        self.assertEqual(plain_reachable(house, dark_state(house)), [dark_state(house)])
        house = House(13, 2)
        self.assert_fault(TooMany, {"count": 8192}, plain_reachable, house, dark_state(house))
        self.assertEqual(len(plain_reachable(house, dark_state(house), limit=8192)), 1)
        self.assert_fault(TooMany, {"count": 8192}, plain_reachable, house, dark_state(house), limit=8191)
        self.assert_fault(TooMany, {"count": 9}, plain_reachable, chain(2, 3), (0, 0), careful=True, limit=8)

    def test_great_houses(self):
        for house in great_houses():
            dark = dark_state(house)
            self.assert_fault(TooMany, {"count": 10 ** 16}, plain_reachable, house, dark)
            self.assertEqual(plain_reachable(house, dark, limit=10 ** 16), [dark])
            for function in (plain_lengths, plain_meet, plain_join):
                self.assert_fault(TooMany, {"count": 10 ** 16}, function, house, dark, dark)

    def test_values_that_are_no_states(self):
        for house in (floors([2, 1], 3), chain(16, 10)):
            dark = dark_state(house)
            for value in no_states(house):
                self.assert_fault(InvalidState, {"state": value}, plain_reachable, house, value, limit=0)
                for function in (plain_lengths, plain_meet, plain_join):
                    self.assert_fault(InvalidState, {"state": value}, function, house, value, "later", limit=0)
                    self.assert_fault(InvalidState, {"state": value}, function, house, dark, value, limit=0)


class LengthsTest(FaultTest):
    """Point 89."""

    def test_ordinary_lengths(self):
        house = chain(2, 3)
        self.assertEqual(plain_lengths(house, (2, 0), (0, 0)), [3, 6])
        self.assertEqual(plain_lengths(house, (2, 0), (0, 0), careful=True), [6])
        self.assertEqual(plain_lengths(house, (2, 0), (2, 0)), [0])
        self.assertEqual(plain_lengths(house, (0, 2), (1, 0)), [])
        self.assertEqual(plain_lengths(house, (0, 2), (1, 0), careful=True), [])

    def test_agree_with_all_runs(self):
        for house in small_houses()[::3]:
            for source, target in product(all_states(house), repeat=2):
                for careful in (False, True):
                    found = plain_lengths(house, source, target, careful=careful)
                    self.assertEqual(found, sorted(lengths_by_runs(house, source, target, careful)))

    def test_agree_with_the_other_functions(self):
        for house in SMALL:
            for source, target in product(all_states(house), repeat=2):
                expected, careful = [], []
                if is_reachable(house, source, target):
                    least, step, greatest = length_range(house, source, target)
                    expected, careful = list(range(least, greatest + 1, step)), [greatest]
                self.assertEqual(plain_lengths(house, source, target), expected)
                self.assertEqual(plain_lengths(house, source, target, careful=True), careful)

    def test_houses_with_very_many_runs(self):
        house = House(8, 2)
        self.assertEqual(plain_lengths(house, (1,) * 8, (0,) * 8), [8])
        house = chain(8, 2)
        self.assertEqual(plain_lengths(house, (1,) * 8, (0,) * 8), list(range(1, 256, 2)))
        self.assertEqual(plain_lengths(house, (1,) * 8, (0,) * 8, careful=True), [255])

    def test_limit(self):
        house = chain(8, 2)
        self.assertEqual(plain_lengths(house, (0,) * 8, (0,) * 8, limit=256), [0])
        self.assert_fault(TooMany, {"count": 256}, plain_lengths, house, (0,) * 8, (0,) * 8, limit=255)
        house = chain(9, 2)
        self.assert_fault(TooMany, {"count": 512}, plain_lengths, house, (0,) * 9, (0,) * 9)
        self.assertEqual(plain_lengths(house, (1,) * 9, (0,) * 9, limit=512), list(range(1, 512, 2)))


class MeetAndJoinTest(FaultTest):
    """Point 89."""

    def test_ordinary_states(self):
        house = floors([2, 1], 2)
        self.assertEqual(plain_meet(house, (1, 0, 0), (0, 1, 1)), (0, 0, 1))
        self.assertEqual(plain_join(house, (1, 0, 0), (0, 1, 1)), (1, 1, 0))

    def test_agree_with_the_other_functions(self):
        for house in SMALL:
            for first, second in product(all_states(house), repeat=2):
                self.assertEqual(plain_meet(house, first, second), meet(house, first, second))
                self.assertEqual(plain_join(house, first, second), join(house, first, second))
        house = hillside(2, 2, 4)
        for first, second in product(all_states(house)[::37], repeat=2):
            self.assertEqual(plain_meet(house, first, second), meet(house, first, second))
            self.assertEqual(plain_join(house, first, second), join(house, first, second))

    def test_they_are_meet_and_join(self):
        for house in small_houses()[::4]:
            below = {state: searched(house, state, False) for state in all_states(house)}
            for first, second in product(below, repeat=2):
                self.assertEqual(below[plain_meet(house, first, second)], below[first] & below[second])
                above = {state for state in below if first in below[state] and second in below[state]}
                lowest = plain_join(house, first, second)
                self.assertEqual(above, {state for state in below if lowest in below[state]})

    def test_limit(self):
        for function in (plain_meet, plain_join):
            house = chain(8, 2)
            self.assertEqual(function(house, (1,) * 8, (1,) * 8), (1,) * 8)
            self.assert_fault(TooMany, {"count": 256}, function, house, (0,) * 8, (1,) * 8, limit=255)
            house = House(9, 2)
            self.assert_fault(TooMany, {"count": 512}, function, house, (0,) * 9, (1,) * 9)
            self.assertEqual(function(house, (0,) * 9, (0,) * 9, limit=512), (0,) * 9)
