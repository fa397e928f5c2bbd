from itertools import islice

from huefall.counting import lower_count, upper_count
from huefall.errors import InvalidState, TooMany
from huefall.house import House
from huefall.lengths import weights, worth
from huefall.listing import MOST_STATES, between, each_above, each_below, level_sizes
from huefall.shapes import chain, floors, hillside
from huefall.states import bright_state, dark_state, number_of, state_of
from tests.helpers import FaultTest, all_houses, all_states, great_houses, no_states, reachable_pairs, small_houses

SMALL = [*small_houses(), *all_houses(4, 2)[::29]]
STATE = (0, 0, 0, 1, 0, 0, 0, 0, 0, 0, 1, 0, 1, 0, 0, 2)


class BelowAndAboveTest(FaultTest):
    """Point 50."""

    def test_ordinary_lists(self):
        house = floors([2, 1], 2)
        self.assertEqual(list(each_below(house, (1, 0, 0))), [(1, 0, 0), (0, 0, 1), (0, 0, 0)])
        self.assertEqual(list(each_above(house, (1, 0, 0))), [(1, 0, 0), (1, 0, 1), (1, 1, 0), (1, 1, 1)])
        house = House(3, 2, [(2, 0)])
        self.assertEqual(list(each_below(house, (1, 0, 1))), [(1, 0, 1), (0, 0, 1), (1, 0, 0), (0, 0, 0)])
        above = [(1, 0, 0), (0, 0, 1), (1, 0, 1), (1, 1, 0), (0, 1, 1), (1, 1, 1)]
        self.assertEqual(list(each_above(house, (1, 0, 0))), above)

    def test_agree_with_search(self):
        for house in SMALL:
            pairs = reachable_pairs(house)
            for state in all_states(house):
                below = [target for source, target in pairs if source == state]
                above = [source for source, target in pairs if target == state]
                below.sort(key=lambda other: -number_of(house, other))
                above.sort(key=lambda other: number_of(house, other))
                self.assertEqual(list(each_below(house, state)), below)
                self.assertEqual(list(each_above(house, state)), above)
                self.assertEqual((below[0], above[0]), (state, state))

    def test_dark_and_bright_state(self):
        for house in [*SMALL, *great_houses()]:
            dark, bright = dark_state(house), bright_state(house)
            self.assertEqual(list(each_below(house, dark, limit=1)), [dark])
            self.assertEqual(list(each_above(house, bright, limit=1)), [bright])
        house = hillside(2, 3, 3)
        states = [state_of(house, number) for number in range(3 ** 6)]
        self.assertEqual(list(each_below(house, (2,) * 6)), states[::-1])
        self.assertEqual(list(each_above(house, (0,) * 6)), states)

    def test_a_house_of_16_lamps(self):
        house = floors([4, 4, 4, 4], 2)
        state = (0,) * 12 + (1, 0, 1, 1)
        self.assertEqual(len(list(each_below(house, state))), 8)
        self.assertEqual(len(list(each_above(house, (1,) * 12 + (0, 1, 1, 0)))), 4)
        house = House(16, 10)
        found = list(each_below(house, STATE))
        self.assertEqual(len(found), 24)
        numbers = [number_of(house, other) for other in found]
        self.assertEqual(numbers, sorted(numbers, reverse=True))

    def test_limit(self):
        self.assertEqual(MOST_STATES, 4096)
        house = chain(3, 3)
        self.assertEqual(len(list(each_below(house, (1, 2, 0), limit=16))), 16)
        self.assert_fault(TooMany, {"count": 16}, next, each_below(house, (1, 2, 0), limit=15))
        self.assertEqual(len(list(each_above(house, (1, 2, 0), limit=12))), 12)
        self.assert_fault(TooMany, {"count": 12}, next, each_above(house, (1, 2, 0), limit=11))
        self.assert_fault(TooMany, {"count": 1}, next, each_below(house, (0, 0, 0), limit=0))
        self.assert_fault(TooMany, {"count": 1}, next, each_above(house, (2, 2, 2), limit=0))

    def test_default_limit(self):
        house = chain(13, 2)
        self.assertEqual(len(list(each_below(house, (0,) + (1,) * 12))), 4096)
        self.assert_fault(TooMany, {"count": 4097}, next, each_below(house, (1,) + (0,) * 12))
        self.assertEqual(len(list(each_above(house, (1,) + (0,) * 12))), 4096)
        self.assert_fault(TooMany, {"count": 4097}, next, each_above(house, (0,) + (1,) * 12))
        for house in great_houses():
            self.assert_fault(TooMany, {"count": 10 ** 16}, next, each_below(house, bright_state(house)))
            self.assert_fault(TooMany, {"count": 10 ** 16}, next, each_above(house, dark_state(house)))

    def test_one_by_one(self):
        house = chain(16, 10)
        below = each_below(house, bright_state(house), limit=10 ** 16)
        numbers = [number_of(house, state) for state in islice(below, 12)]
        self.assertEqual(numbers, list(range(10 ** 16 - 1, 10 ** 16 - 13, -1)))
        above = each_above(house, dark_state(house), limit=10 ** 16)
        self.assertEqual([number_of(house, state) for state in islice(above, 12)], list(range(12)))

    def test_errors_come_when_the_iteration_begins(self):
        house = chain(2, 3)
        for generator in (each_below, each_above):
            for value in no_states(house):
                states = generator(house, value, limit=0)
                self.assert_fault(InvalidState, {"state": value}, next, states)
            states = generator(house, (1, 1), limit=0)
            self.assert_fault(TooMany, {"count": 5}, next, states)


class BetweenTest(FaultTest):
    """Point 51."""

    def test_ordinary_list(self):
        house = floors([2, 1], 2)
        found = [(1, 1, 0), (1, 0, 1), (1, 0, 0), (0, 1, 1), (0, 1, 0), (0, 0, 1)]
        self.assertEqual(between(house, (1, 1, 0), (0, 0, 1)), found)
        self.assertEqual(between(house, (1, 1, 0), (1, 1, 0)), [(1, 1, 0)])
        self.assertEqual(between(house, (1, 0, 0), (0, 1, 0)), [])
        self.assertEqual(between(house, (0, 0, 0), (1, 1, 1)), [])

    def test_agrees_with_search(self):
        for house in SMALL:
            pairs = reachable_pairs(house)
            descending = sorted(all_states(house), key=lambda state: -number_of(house, state))
            for source in descending:
                for target in descending:
                    found = [state for state in descending if (source, state) in pairs and (state, target) in pairs]
                    self.assertEqual(between(house, source, target), found)

    def test_limit(self):
        house = chain(3, 3)
        self.assertEqual(between(house, (1, 2, 0), (1, 2, 0), limit=16), [(1, 2, 0)])
        for target in ((1, 2, 0), (0, 0, 0), (2, 2, 2)):
            self.assert_fault(TooMany, {"count": 16}, between, house, (1, 2, 0), target, limit=15)
        self.assertEqual(between(house, (1, 2, 0), (2, 2, 2), limit=16), [])
        house = chain(13, 2)
        self.assertEqual(len(between(house, (0,) + (1,) * 12, (0,) * 13)), 4096)
        source = (1,) + (0,) * 12
        self.assert_fault(TooMany, {"count": 4097}, between, house, source, source)
        house = chain(16, 10)
        bright = bright_state(house)
        self.assert_fault(TooMany, {"count": 10 ** 16}, between, house, bright, bright)

    def test_a_house_of_16_lamps(self):
        house = House(16, 10)
        self.assertEqual(len(between(house, STATE, dark_state(house))), 24)
        self.assertEqual(len(between(house, STATE, (0,) * 15 + (2,))), 8)
        self.assertEqual(between(house, STATE, bright_state(house)), [])

    def test_values_that_are_no_states(self):
        self.assert_checks_states(chain(2, 3), between, 2, limit=0)


class LevelSizesTest(FaultTest):
    """Point 54."""

    def test_ordinary_lists(self):
        self.assertEqual(level_sizes(floors([2, 1], 2)), [1, 1, 2, 2, 1, 1])
        self.assertEqual(level_sizes(House(3, 3)), [1, 3, 6, 7, 6, 3, 1])
        self.assertEqual(level_sizes(House(1, 5)), [1] * 5)

    def test_agrees_with_the_worth_of_all_states(self):
        for house in [*SMALL, hillside(2, 2, 3), floors([2, 2, 1], 2)]:
            sizes = [0] * (worth(house, bright_state(house)) + 1)
            for state in all_states(house):
                sizes[worth(house, state)] += 1
            self.assertEqual(level_sizes(house), sizes)

    def test_all_sizes_of_a_chain_are_1(self):
        for count, hues in ((1, 2), (12, 2), (3, 10)):
            self.assertEqual(level_sizes(chain(count, hues)), [1] * hues ** count)

    def test_houses_of_16_lamps(self):
        for house in (House(16, 10), floors([14, 2], 10), House(16, 4, [(0, 3), (3, 8), (1, 3), (9, 2)])):
            sizes = level_sizes(house)
            self.assertEqual(sizes, sizes[::-1])
            self.assertEqual(sum(sizes), house.hues ** 16)
            self.assertEqual(len(sizes), (house.hues - 1) * sum(weights(house)) + 1)
        self.assertEqual(level_sizes(House(16, 10))[:4], [1, 16, 136, 816])

    def test_limit(self):
        house = floors([2, 1], 2)
        self.assertEqual(len(level_sizes(house, limit=6)), 6)
        self.assert_fault(TooMany, {"count": 6}, level_sizes, house, limit=5)
        self.assertEqual(len(level_sizes(chain(12, 2))), 4096)
        self.assert_fault(TooMany, {"count": 3 ** 8}, level_sizes, chain(8, 3))
        self.assert_fault(TooMany, {"count": 10 ** 16}, level_sizes, chain(16, 10))
        self.assert_fault(TooMany, {"count": 10 ** 16}, level_sizes, chain(16, 10), limit=10 ** 16 - 1)
        # A chain of 12 lamps and one lamp beside it: one level more than the limit.
        house = House(13, 2, [(lamp, lamp + 1) for lamp in range(11)])
        self.assert_fault(TooMany, {"count": 4097}, level_sizes, house)
        self.assertEqual(len(level_sizes(house, limit=4097)), 4097)

    def test_lists_are_new(self):
        house = chain(2, 2)
        for call in (lambda: level_sizes(house), lambda: between(house, (1, 1), (0, 0))):
            call().clear()
            self.assertEqual(len(call()), 4)

    def test_counts_agree_with_lists(self):
        house = hillside(2, 3, 2)
        for state in all_states(house):
            self.assertEqual(len(list(each_below(house, state))), lower_count(house, state))
            self.assertEqual(len(list(each_above(house, state))), upper_count(house, state))
