from huefall.counting import lower_count
from huefall.errors import InvalidLamp, InvalidState, TooMany
from huefall.house import House
from huefall.moebius import inclusion, invert, lowered, lowest_lit, moebius
from huefall.shapes import chain, floors, hillside
from huefall.states import bright_state, dark_state, number_of
from tests.helpers import (
    FaultTest,
    all_houses,
    all_states,
    great_houses,
    lamps_below,
    no_lamps,
    no_states,
    reachable_pairs,
    small_houses,
)

SMALL = [*small_houses(), *all_houses(4, 2)[::29]]
TWO_FLOORS = House(16, 10, [(lamp, lamp + 8) for lamp in range(8)])


def all_sets(lamps):
    """Every set of the lamps, as a list."""
    found = [[]]
    for lamp in lamps:
        found += [[*chosen, lamp] for chosen in found]
    return found


class LoweredTest(FaultTest):
    """Point 52."""

    def test_lowest_lit(self):
        house = floors([2, 1], 3)
        self.assertEqual(lowest_lit(house, (1, 2, 0)), [0, 1])
        self.assertEqual(lowest_lit(house, (1, 2, 1)), [2])
        self.assertEqual(lowest_lit(house, (0, 0, 0)), [])
        for house in SMALL:
            for state in all_states(house):
                lit = [lamp for lamp in range(house.count) if state[lamp]]
                lowest = [lamp for lamp in lit if not set(lit) & set(lamps_below(house.wires, lamp))]
                self.assertEqual(lowest_lit(house, state), lowest)

    def test_lowered(self):
        house = floors([2, 1], 3)
        self.assertEqual(lowered(house, (1, 2, 0), [0]), (0, 2, 2))
        self.assertEqual(lowered(house, (1, 2, 0), [1, 0]), (0, 1, 2))
        self.assertEqual(lowered(house, (1, 2, 0), []), (1, 2, 0))
        self.assertEqual(lowered(house, (1, 2, 0), [1, 1, 1]), (1, 1, 2))

    def test_different_sets_give_different_states(self):
        for house in SMALL:
            for state in all_states(house):
                sets = all_sets(lowest_lit(house, state))
                self.assertEqual(len({lowered(house, state, lamps) for lamps in sets}), len(sets))

    def test_great_houses(self):
        house = TWO_FLOORS
        state = (9,) * 8 + (0,) * 8
        self.assertEqual(lowest_lit(house, state), list(range(8)))
        self.assertEqual(lowered(house, state, [0, 7]), (8, *(9,) * 6, 8, 9, *(0,) * 6, 9))
        self.assertEqual(lowest_lit(chain(16, 10), bright_state(chain(16, 10))), [15])

    def test_lists(self):
        house, lamps = floors([2, 1], 3), [1, 0]
        lowered(house, (1, 2, 0), lamps)
        lowest_lit(house, (1, 2, 0)).clear()
        self.assertEqual((lamps, lowest_lit(house, (1, 2, 0))), ([1, 0], [0, 1]))

    def test_values_that_are_no_lowest_lit_lamps(self):
        house = House(4, 3, [(0, 1), (2, 3)])
        state = (1, 1, 1, 0)
        for value in [*no_lamps(house), 0, 3]:
            for lamps in ([value], [1, 2, value, "later"], [value, 0]):
                self.assert_fault(InvalidLamp, {"lamp": value}, lowered, house, state, lamps)
        self.assert_fault(InvalidLamp, {"lamp": True}, lowered, house, state, [2, True])
        self.assert_fault(InvalidLamp, {"lamp": False}, lowered, House(2, 2), (1, 1), [False])

    def test_values_that_are_no_states(self):
        self.assert_checks_states(chain(2, 3), lowest_lit, 1)
        self.assert_checks_states(chain(2, 3), lowered, 1, ["no lamp"])


class MoebiusTest(FaultTest):
    """Points 46 and 52."""

    def test_sums_between_two_states(self):
        for house in SMALL:
            pairs = reachable_pairs(house)
            for source, target in pairs:
                below = [state for state in all_states(house) if (source, state) in pairs]
                found = sum(moebius(house, source, state) for state in below if (state, target) in pairs)
                self.assertEqual(found, 1 if source == target else 0)

    def test_each_pair_of_states(self):
        for house in SMALL:
            for source in all_states(house):
                sets = all_sets(lowest_lit(house, source))
                signs = {lowered(house, source, lamps): (-1) ** len(lamps) for lamps in sets}
                for target in all_states(house):
                    self.assertEqual(moebius(house, source, target), signs.get(target, 0))

    def test_ordinary_numbers(self):
        house = floors([2, 1], 3)
        source = (1, 2, 0)
        self.assertEqual(moebius(house, source, source), 1)
        self.assertEqual(moebius(house, source, (0, 2, 2)), -1)
        self.assertEqual(moebius(house, source, (0, 1, 2)), 1)
        for target in ((0, 2, 1), (0, 1, 1), (1, 0, 2), (2, 2, 0), (0, 0, 0)):
            self.assertEqual(moebius(house, source, target), 0)

    def test_great_houses_without_a_bound(self):
        house = House(16, 10)
        bright = bright_state(house)
        self.assertEqual(moebius(house, bright, (8,) * 16), 1)
        self.assertEqual(moebius(house, bright, (8,) * 15 + (9,)), -1)
        self.assertEqual(moebius(house, bright, (8,) * 15 + (7,)), 0)
        for house in great_houses():
            dark, bright = dark_state(house), bright_state(house)
            self.assertEqual((moebius(house, dark, dark), moebius(house, bright, bright)), (1, 1))
            self.assertEqual((moebius(house, dark, bright), moebius(house, bright, dark)), (0, 0))

    def test_values_that_are_no_states(self):
        self.assert_checks_states(chain(2, 3), moebius, 2)


class InclusionTest(FaultTest):
    """Point 53."""

    def test_ordinary_list(self):
        house = floors([2, 1], 3)
        pairs = [(1, (1, 2, 0)), (-1, (1, 1, 2)), (-1, (0, 2, 2)), (1, (0, 1, 2))]
        self.assertEqual(inclusion(house, (1, 2, 0)), pairs)
        self.assertEqual(inclusion(house, (0, 0, 0)), [(1, (0, 0, 0))])
        self.assertEqual(inclusion(house, (2, 2, 2)), [(1, (2, 2, 2)), (-1, (2, 2, 1))])

    def test_each_state(self):
        for house in SMALL:
            for state in all_states(house):
                pairs = []
                for lamps in all_sets(lowest_lit(house, state)):
                    pairs.append(((-1) ** len(lamps), lowered(house, state, lamps)))
                pairs.sort(key=lambda pair: -number_of(house, pair[1]))
                self.assertEqual(inclusion(house, state), pairs)

    def test_sum_of_the_lower_counts(self):
        for house in [*SMALL, hillside(2, 3, 3)]:
            for state in all_states(house):
                self.assertEqual(sum(sign * lower_count(house, other) for sign, other in inclusion(house, state)), 1)
        state = (9,) * 8 + (0,) * 8
        pairs = inclusion(TWO_FLOORS, state)
        self.assertEqual(len(pairs), 256)
        self.assertEqual(sum(sign * lower_count(TWO_FLOORS, other) for sign, other in pairs), 1)

    def test_limit(self):
        house = House(16, 10)
        pairs = inclusion(house, (9,) * 12 + (0,) * 4)
        self.assertEqual(len(pairs), 4096)
        numbers = [number_of(house, state) for _, state in pairs]
        self.assertEqual(numbers, sorted(numbers, reverse=True))
        self.assert_fault(TooMany, {"count": 8192}, inclusion, house, (9,) * 13 + (0,) * 3)
        self.assert_fault(TooMany, {"count": 2 ** 16}, inclusion, house, bright_state(house))

    def test_lists_are_new(self):
        inclusion(chain(2, 2), (1, 0)).clear()
        self.assertEqual(inclusion(chain(2, 2), (1, 0)), [(1, (1, 0)), (-1, (0, 1))])

    def test_values_that_are_no_states(self):
        self.assert_checks_states(chain(2, 3), inclusion, 1)


class InvertTest(FaultTest):
    """Point 53."""

    def test_gives_back_the_function_whose_sums_were_taken(self):
        for house in SMALL:
            pairs = reachable_pairs(house)
            values = {state: 7 * number ** 3 - 100 for number, state in enumerate(all_states(house))}
            sums = dict.fromkeys(values, 0)
            for source, target in pairs:
                sums[source] += values[target]
            for state in all_states(house):
                self.assertEqual(invert(house, state, lambda other: sums[other]), values[state])

    def test_called_once_for_each_pair_in_order(self):
        house, state, called = floors([2, 1], 3), (1, 2, 0), []

        def total(other):
            called.append(other)
            return 10 ** 30 * len(called)

        self.assertEqual(invert(house, state, total), 10 ** 30 * (1 - 2 - 3 + 4))
        self.assertEqual(called, [other for _, other in inclusion(house, state)])

    def test_great_houses(self):
        for house in great_houses():
            for state in (dark_state(house), (0,) * 15 + (1,), (4, *(0,) * 15)):
                self.assertEqual(invert(house, state, lambda other: lower_count(house, other)), 1)

    def test_errors_come_before_the_first_call(self):
        called = []
        house = House(16, 2)
        self.assert_fault(TooMany, {"count": 8192}, invert, house, (1,) * 13 + (0,) * 3, called.append)
        for value in no_states(house):
            self.assert_fault(InvalidState, {"state": value}, invert, house, value, called.append)
        self.assertEqual(called, [])
