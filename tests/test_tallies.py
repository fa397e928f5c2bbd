from huefall.errors import TooMany
from huefall.house import House
from huefall.shapes import chain, floors
from huefall.states import bright_state, dark_state
from huefall.tallies import MOST_TALLIES, all_tallies
from huefall.tally import Tally
from tests.helpers import FaultTest, great_houses, small_houses, tallies_between

SMALL = small_houses()


def counts_listed(house, source, target, **named):
    return [tally.counts for tally in all_tallies(house, source, target, **named)]


class AllTalliesTest(FaultTest):
    """Point 45."""

    def test_ordinary_list(self):
        house = chain(2, 3)
        self.assertEqual(counts_listed(house, (2, 0), (0, 0)), [(2, 1), (2, 4)])
        house = floors([2, 1], 2)
        found = all_tallies(house, (1, 1, 0), (0, 0, 0))
        self.assertEqual(found, [Tally([1, 1, 0]), Tally([1, 1, 2])])
        self.assertIs(type(found), list)

    def test_agrees_with_all_runs(self):
        for house in SMALL:
            for (source, target), tallies in tallies_between(house).items():
                self.assertEqual(counts_listed(house, source, target), tallies)

    def test_ascending_where_the_order_list_is_not(self):
        house = House(3, 2, [(2, 1), (1, 0)])
        found = counts_listed(house, (0, 0, 1), (0, 0, 0))
        self.assertEqual(found, [(0, 1, 1), (2, 1, 1)])
        house = House(4, 2, [(3, 1), (1, 0), (3, 2)])
        found = counts_listed(house, (1, 1, 1, 1), (0, 0, 0, 0))
        self.assertEqual(found, sorted(found))
        self.assertGreater(len(found), 4)

    def test_limit(self):
        self.assertEqual(MOST_TALLIES, 2000)
        house = chain(3, 3)
        found = all_tallies(house, (1, 1, 1), (0, 0, 0))
        self.assertEqual(all_tallies(house, (1, 1, 1), (0, 0, 0), limit=len(found)), found)
        for limit in range(len(found)):
            call = (all_tallies, house, (1, 1, 1), (0, 0, 0))
            self.assert_fault(TooMany, {"count": limit + 1}, *call, limit=limit)

    def test_a_list_along_a_chain(self):
        house = chain(16, 10)
        expected = []
        for second in range(0, 2 + 9 * 2 + 1, 10):
            for third in range(-second % 10, 2 + 9 * (2 + second) + 1, 10):
                load = 2 + second + third
                expected += [(2, second, third, last) for last in range(-load % 10, 9 * load + 1, 10)]
        source, target = (0,) * 12 + (2, 2, 2, 0), (0,) * 16
        found = counts_listed(house, source, target, limit=10 ** 5)
        self.assertEqual([counts[12:] for counts in found], expected)
        self.assertEqual({counts[:12] for counts in found}, {(0,) * 12})

    def test_the_default_limit(self):
        house = House(12, 10, [(2 * lamp, 2 * lamp + 1) for lamp in range(6)])
        dark = dark_state(house)
        # A pair of lamps of the same hue has one tally more than the hue.
        source = (1, 1, 4, 4, 4, 4, 3, 3, 9, 9, 0, 0)
        self.assertEqual(len(all_tallies(house, source, dark)), 2 * 5 * 5 * 4 * 10)
        source = (2, 2, 2, 2, 2, 2, 2, 2, 4, 4, 4, 4)
        self.assertEqual(len(all_tallies(house, source, dark, limit=2025)), 3 ** 4 * 5 ** 2)
        self.assert_fault(TooMany, {"count": 2001}, all_tallies, house, source, dark)

    def test_equal_states(self):
        for house in great_houses():
            for state in (dark_state(house), bright_state(house)):
                self.assertEqual(all_tallies(house, state, state, limit=1), [Tally([0] * 16)])
                self.assert_fault(TooMany, {"count": 1}, all_tallies, house, state, state, limit=0)

    def test_great_houses(self):
        house = House(16, 10)
        self.assertEqual(all_tallies(house, bright_state(house), dark_state(house)), [Tally([9] * 16)])
        for house in great_houses()[1:]:
            call = (all_tallies, house, bright_state(house), dark_state(house))
            self.assert_fault(TooMany, {"count": 2001}, *call)
            self.assert_fault(TooMany, {"count": 1}, *call, limit=0)

    def test_not_reachable(self):
        for house in SMALL:
            self.assert_needs_reachable(house, all_tallies, limit=0)

    def test_values_that_are_no_states(self):
        self.assert_checks_states(chain(2, 3), all_tallies, 2, limit=0)
