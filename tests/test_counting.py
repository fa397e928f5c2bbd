from itertools import combinations
from math import prod

from huefall.counting import lower_count, pair_count, rank_below, state_at_rank, upper_count
from huefall.errors import InvalidNumber
from huefall.house import House
from huefall.shapes import chain, floors, hillside, stacked
from huefall.states import bright_state, dark_state, mirror, number_of
from tests.helpers import (
    NO_INTEGERS,
    FaultTest,
    all_houses,
    all_states,
    great_houses,
    lamps_below,
    reachable_pairs,
    small_houses,
)

SMALL = [*small_houses(), *all_houses(4, 2)[::29]]
TWO_FLOORS = House(16, 10, [(lamp, lamp + 8) for lamp in range(8)])


def independent_sets(house, lamps):
    """Each set of these lamps in which any two are independent, with all lamps beneath one of its lamps."""
    below = {lamp: lamps_below(house.wires, lamp) for lamp in lamps}
    for size in range(len(lamps) + 1):
        for chosen in combinations(lamps, size):
            covered = {lower for lamp in chosen for lower in below[lamp]}
            if not covered & set(chosen):
                yield chosen, covered


def lower_sum(house, state):
    """The sum of point 46."""
    lit = [lamp for lamp in range(house.count) if state[lamp]]
    sets = independent_sets(house, lit)
    return sum(prod(state[lamp] for lamp in chosen) * house.hues ** len(covered) for chosen, covered in sets)


def pair_sum(house):
    """The sum of point 47."""
    hues, found = house.hues, 0
    for chosen, covered in independent_sets(house, range(house.count)):
        others = house.count - len(chosen) - len(covered)
        found += (hues * (hues - 1) // 2) ** len(chosen) * (hues * hues) ** len(covered) * hues ** others
    return found


class CountsTest(FaultTest):
    """Points 46 and 47."""

    def test_example(self):
        self.assertEqual(lower_count(floors([2, 1], 2), (1, 0, 0)), 3)

    def test_agree_with_search(self):
        for house in SMALL:
            pairs = reachable_pairs(house)
            self.assertEqual(pair_count(house), len(pairs))
            for state in all_states(house):
                below = [target for source, target in pairs if source == state]
                above = [source for source, target in pairs if target == state]
                self.assertEqual(lower_count(house, state), len(below))
                self.assertEqual(upper_count(house, state), len(above))

    def test_agree_with_the_sums(self):
        for house in [*SMALL, House(5, 7, [(4, 0), (4, 1), (3, 1), (1, 2)]), hillside(2, 3, 5)]:
            self.assertEqual(pair_count(house), pair_sum(house))
            states = all_states(house)
            for state in states[::max(1, len(states) // 50)]:
                self.assertEqual(lower_count(house, state), lower_sum(house, state))
                self.assertEqual(upper_count(house, state), lower_sum(house, mirror(house, state)))

    def test_agree_with_the_sums_on_great_houses(self):
        state = (3, 0, 9, 1, 0, 0, 7, 2, 0, 5, 8, 0, 0, 4, 1, 6)
        for house in [hillside(4, 4, 10), floors([4, 4, 4, 4], 10), floors([1, 7, 7, 1], 10)]:
            self.assertEqual(pair_count(house), pair_sum(house))
            self.assertEqual(lower_count(house, state), lower_sum(house, state))
            self.assertEqual(upper_count(house, state), lower_sum(house, mirror(house, state)))

    def test_dark_and_bright_state(self):
        for house in [*SMALL, *great_houses(), TWO_FLOORS]:
            count = house.hues ** house.count
            dark, bright = dark_state(house), bright_state(house)
            self.assertEqual((lower_count(house, dark), lower_count(house, bright)), (1, count))
            self.assertEqual((upper_count(house, dark), upper_count(house, bright)), (count, 1))

    def test_far_above_64_bits(self):
        self.assertEqual(pair_count(chain(16, 10)), 10 ** 16 * (10 ** 16 + 1) // 2)
        self.assertEqual(pair_count(House(16, 10)), 55 ** 16)
        self.assertEqual(pair_count(TWO_FLOORS), pair_count(chain(2, 10)) ** 8)
        both = stacked(House(8, 10), House(8, 10))
        self.assertEqual(pair_count(both), (55 ** 8 - 10 ** 8) * 10 ** 16 + 10 ** 8 * 55 ** 8)

    def test_great_houses(self):
        self.assertEqual(lower_count(chain(16, 10), (1,) * 16), int("1" * 16) + 1)
        self.assertEqual(upper_count(chain(16, 10), (1,) * 16), 10 ** 16 - int("1" * 16))
        self.assertEqual(lower_count(House(16, 10), (4,) * 16), 5 ** 16)
        self.assertEqual(lower_count(TWO_FLOORS, (4,) * 16), 45 ** 8)
        self.assertEqual(upper_count(TWO_FLOORS, (5,) * 16), 45 ** 8)

    def test_values_that_are_no_states(self):
        for function in (lower_count, upper_count):
            self.assert_checks_states(chain(2, 3), function, 1)


class RanksTest(FaultTest):
    """Points 48 and 49."""

    def test_agree_with_search(self):
        for house in SMALL:
            pairs = reachable_pairs(house)
            for state in all_states(house):
                below = [target for source, target in pairs if source == state]
                below.sort(key=lambda target: number_of(house, target))
                for rank, target in enumerate(below):
                    self.assertEqual(rank_below(house, state, target), rank)
                    self.assertEqual(state_at_rank(house, state, rank), target)
                fault = {"number": len(below)}
                self.assert_fault(InvalidNumber, fault, state_at_rank, house, state, len(below))

    def test_first_and_last_rank(self):
        for house in [*great_houses(), TWO_FLOORS]:
            for state in (bright_state(house), (3, 0, 9, 1, 0, 0, 7, 2, 0, 5, 8, 0, 0, 4, 1, 6), dark_state(house)):
                last = lower_count(house, state) - 1
                self.assertEqual(state_at_rank(house, state, 0), dark_state(house))
                self.assertEqual(state_at_rank(house, state, last), state)
                self.assertEqual(rank_below(house, state, dark_state(house)), 0)
                self.assertEqual(rank_below(house, state, state), last)
                for number in (-1, last + 1, 10 ** 30):
                    self.assert_fault(InvalidNumber, {"number": number}, state_at_rank, house, state, number)

    def test_great_houses(self):
        for house in [*great_houses(), TWO_FLOORS]:
            state = (3, 0, 9, 1, 0, 0, 7, 2, 0, 5, 8, 0, 0, 4, 1, 6)
            last = lower_count(house, state) - 1
            numbers = []
            for part in range(20):
                target = state_at_rank(house, state, last * part // 19)
                self.assertEqual(rank_below(house, state, target), last * part // 19)
                numbers.append(number_of(house, target))
            self.assertEqual(numbers, sorted(numbers))
        # Below the bright state the rank is the number, below it everything is reachable.
        house = hillside(4, 4, 10)
        target = state_at_rank(house, bright_state(house), 1234567890123456)
        self.assertEqual(number_of(house, target), 1234567890123456)

    def test_not_reachable(self):
        for house in SMALL[::3]:
            self.assert_needs_reachable(house, rank_below)

    def test_values_that_are_no_ranks(self):
        house = chain(2, 3)
        for value in [*NO_INTEGERS, -1, 5, 10 ** 30]:
            self.assert_fault(InvalidNumber, {"number": value}, state_at_rank, house, (1, 1), value)
        self.assertEqual(state_at_rank(house, (1, 1), 4), (1, 1))

    def test_values_that_are_no_states(self):
        self.assert_checks_states(chain(2, 3), rank_below, 2)
        self.assert_checks_states(chain(2, 3), state_at_rank, 1, -1)
