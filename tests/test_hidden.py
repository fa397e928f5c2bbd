from itertools import product

from huefall.errors import InvalidLamp, InvalidState, NotReachable, TooMany
from huefall.hidden import hidden_ranges, hidden_tallies, still_lamps, sure_lamps
from huefall.house import House
from huefall.shapes import chain, floors, hillside
from huefall.states import bright_state, dark_state
from huefall.tally import Tally
from tests.helpers import FaultTest, all_states, great_houses, no_lamps, small_houses, tallies_between

SMALL = small_houses()


def counts_listed(house, source, target, **named):
    return [tally.counts for tally in hidden_tallies(house, source, target, **named)]


def ranges_of(tallies):
    """The least and the greatest count of each lamp, or None without tallies."""
    return [(min(counts), max(counts)) for counts in zip(*tallies)] if tallies else None


class HiddenTest(FaultTest):
    """Point 77."""

    def test_ordinary_tallies(self):
        house = chain(3, 2)
        source, target = (1, 0, 1), (0, 0, 0)
        everything = [(1, 1, 1), (1, 1, 3)]
        found = hidden_tallies(house, source, target)
        self.assertEqual(found, [Tally(counts) for counts in everything])
        self.assertIs(type(found), list)
        self.assertEqual(hidden_ranges(house, source, target), [(1, 1), (1, 1), (1, 3)])
        self.assertEqual(counts_listed(house, source, target, length=5), [(1, 1, 3)])
        self.assertEqual(hidden_ranges(house, source, target, length=5), [(1, 1), (1, 1), (3, 3)])
        self.assertEqual(counts_listed(house, source, target, known=[(2, 1)]), [(1, 1, 1)])
        self.assertEqual(counts_listed(house, source, target, known=((0, 1), (2, 3))), [(1, 1, 3)])
        self.assertEqual(counts_listed(house, source, target, length=3, known=[(2, 3)]), [])
        self.assertIsNone(hidden_ranges(house, source, target, length=3, known=[(2, 3)]))

    def test_agree_with_all_runs(self):
        for house in SMALL:
            for (source, target), tallies in tallies_between(house).items():
                self.assertEqual(counts_listed(house, source, target), tallies)
                self.assertEqual(hidden_ranges(house, source, target), ranges_of(tallies))
                lengths = sorted({sum(counts) for counts in tallies})
                for length in [*lengths[:3], lengths[-1], lengths[0] - 1, lengths[-1] + house.hues]:
                    self.check_with(house, source, target, tallies, length, [])
                    for known in product(range(house.count), sorted({tallies[0][-1], tallies[-1][-1], 1})):
                        self.check_with(house, source, target, tallies, length, [known])
                        self.check_with(house, source, target, tallies, None, (known, (0, tallies[-1][0])))

    def check_with(self, house, source, target, tallies, length, known):
        fitting = [
            counts
            for counts in tallies
            if length in (None, sum(counts)) and all(counts[lamp] == count for lamp, count in known)
        ]
        named = {"length": length, "known": known}
        self.assertEqual(counts_listed(house, source, target, **named), fitting)
        self.assertEqual(hidden_ranges(house, source, target, **named), ranges_of(fitting))

    def test_known_counts_that_no_tally_has(self):
        house = chain(3, 3)
        states = (2, 0, 1), (0, 1, 0)
        for known in ([(1, -1)], [(2, -10 ** 30)], [(0, 10 ** 30)], [(0, 2), (0, 5)], [(1, 1), (1, 4)], ((0, 3),)):
            self.assertEqual(hidden_tallies(house, *states, known=known), [])
            self.assertIsNone(hidden_ranges(house, *states, known=known))
        self.assertEqual(hidden_tallies(house, *states, known=[(0, 2), (0, 2)]), hidden_tallies(house, *states))

    def test_lengths_that_no_run_has(self):
        house = chain(3, 3)
        states = (2, 0, 1), (0, 1, 0)
        for length in (-1, -10 ** 30, 0, 1, 10 ** 30, 4, 5):
            expected = [counts for counts in counts_listed(house, *states) if sum(counts) == length]
            self.assertEqual(counts_listed(house, *states, length=length), expected)
        for length in (-1, 0, 10 ** 30):
            self.assertIsNone(hidden_ranges(house, *states, length=length))

    def test_equal_states(self):
        for house in great_houses():
            for state in (dark_state(house), bright_state(house)):
                self.assertEqual(hidden_tallies(house, state, state), [Tally([0] * 16)])
                named = {"length": 0, "known": [(3, 0)], "limit": 1}
                self.assertEqual(hidden_tallies(house, state, state, **named), [Tally([0] * 16)])
                self.assertEqual(hidden_ranges(house, state, state), [(0, 0)] * 16)
                self.assertEqual(hidden_tallies(house, state, state, length=1), [])
                self.assertEqual(hidden_tallies(house, state, state, known=[(3, 1)]), [])

    def test_limit(self):
        house = chain(3, 3)
        states = (1, 1, 1), (0, 0, 0)
        count = len(hidden_tallies(house, *states))
        self.assertGreater(count, 2)
        for function in (hidden_tallies, hidden_ranges):
            for named in ({}, {"length": -1}, {"known": [(0, 7)]}, {"length": 3, "known": ((0, -1),)}):
                function(house, *states, limit=count, **named)
                for limit in range(count):
                    self.assert_fault(TooMany, {"count": limit + 1}, function, house, *states, limit=limit, **named)

    def test_the_default_limit(self):
        house = House(12, 10, [(2 * lamp, 2 * lamp + 1) for lamp in range(6)])
        dark = dark_state(house)
        source = (1, 1, 4, 4, 4, 4, 3, 3, 9, 9, 0, 0)
        self.assertEqual(len(hidden_tallies(house, source, dark)), 2000)
        self.assertEqual(len(hidden_tallies(house, source, dark, known=[(11, 0), (9, 0)])), 200)
        source = (2, 2, 2, 2, 2, 2, 2, 2, 4, 4, 4, 4)
        for function in (hidden_tallies, hidden_ranges):
            self.assert_fault(TooMany, {"count": 2001}, function, house, source, dark, known=[(1, -1)])
            self.assertTrue(function(house, source, dark, limit=2025))

    def test_not_reachable_comes_before_too_many(self):
        for function in (hidden_tallies, hidden_ranges):
            for house in SMALL:
                self.assert_needs_reachable(house, function, limit=0, length=-1, known=[(0, -1)])

    def test_order_of_the_checks(self):
        house = chain(3, 2)
        for function in (hidden_tallies, hidden_ranges):
            self.assert_checks_states(house, function, 2, limit=0, known=[(9, 0)])
            for value in no_lamps(house):
                for known in ([(value, 0)], ((0, 0), (value, 1), (None, 2)), [(2, 5), (0, 0), (value, -1)]):
                    # The target is not reachable, so a later check would raise another error.
                    call = (function, house, (0, 0, 0), (1, 0, 0))
                    self.assert_fault(InvalidLamp, {"lamp": value}, *call, known=known, limit=0)

    def test_arguments_are_not_changed_and_lists_are_new(self):
        house, known = chain(3, 2), [(2, 1)]
        for function in (hidden_tallies, hidden_ranges):
            kept = function(house, (1, 0, 1), (0, 0, 0), known=known)
            function(house, (1, 0, 1), (0, 0, 0), known=known).clear()
            self.assertEqual(function(house, (1, 0, 1), (0, 0, 0), known=known), kept)
        self.assertEqual(known, [(2, 1)])


class SureAndStillTest(FaultTest):
    """Point 78."""

    def test_ordinary_lamps(self):
        house = floors([2, 1], 2)
        self.assertEqual(sure_lamps(house, (1, 1, 0), (0, 0, 0)), [0, 1])
        self.assertEqual(still_lamps(house, (1, 1, 0), (0, 0, 0)), [])
        self.assertEqual(sure_lamps(house, (1, 0, 0), (0, 0, 0)), [0, 2])
        self.assertEqual(still_lamps(house, (1, 0, 0), (0, 0, 0)), [1])
        # Lamp 2 may move and need not.
        self.assertEqual(sure_lamps(house, (1, 0, 0), (0, 0, 1)), [0])
        self.assertEqual(still_lamps(house, (1, 0, 1), (0, 0, 1)), [1])

    def test_agree_with_all_runs(self):
        for house in SMALL:
            for (source, target), tallies in tallies_between(house).items():
                lamps = range(house.count)
                sure = [lamp for lamp in lamps if all(counts[lamp] for counts in tallies)]
                still = [lamp for lamp in lamps if not any(counts[lamp] for counts in tallies)]
                self.assertEqual(sure_lamps(house, source, target), sure)
                self.assertEqual(still_lamps(house, source, target), still)

    def test_great_houses(self):
        for house in great_houses():
            dark, bright = dark_state(house), bright_state(house)
            self.assertEqual(sure_lamps(house, dark, dark), [])
            self.assertEqual(still_lamps(house, bright, bright), list(range(16)))
            self.assertEqual(still_lamps(house, bright, dark), [])
        self.assertEqual(sure_lamps(chain(16, 10), (9,) * 16, (0,) * 16), [0])
        house = hillside(4, 4, 10)
        self.assertEqual(still_lamps(house, (0,) * 15 + (9,), (0,) * 16), list(range(15)))
        self.assertEqual(sure_lamps(house, (0,) * 15 + (9,), (0,) * 16), [15])

    def test_errors(self):
        for function in (sure_lamps, still_lamps):
            self.assert_checks_states(chain(3, 2), function, 2)
            for house in SMALL:
                self.assert_needs_reachable(house, function)
            self.assert_fault(NotReachable, {"lamp": 0}, function, chain(2, 2), (0, 1), (1, 0))
            self.assert_fault(InvalidState, {"state": (0, 2)}, function, chain(2, 2), (0, 1), (0, 2))
            states = [(1, 1), (0, 0)]
            function(chain(2, 2), *states).clear()
            self.assertEqual(states, [(1, 1), (0, 0)])

    def test_all_pairs_of_states(self):
        house = House(2, 3, [(1, 0)])
        for source in all_states(house):
            self.assertEqual(sure_lamps(house, source, source), [])
            self.assertEqual(still_lamps(house, source, source), [0, 1])
