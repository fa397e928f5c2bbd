from itertools import product

from huefall.errors import InvalidLamp, InvalidState, InvalidTally
from huefall.house import House
from huefall.shapes import chain, floors
from huefall.tally import Tally, fits, loads
from tests.helpers import NO_INTEGERS, FaultTest, all_states, no_lamps, no_states, small_houses, tallies_from

NO_COUNTS = [None, True, 0, "", "12", b"12", {}, {0: 1}, set(), [], (), [-1], (0, -1), [1, "1"]]
NO_COUNTS += [[value] for value in NO_INTEGERS] + [(0, value) for value in NO_INTEGERS]


class TallyTest(FaultTest):
    """Point 31."""

    def test_counts_total_and_length(self):
        for counts in ([2, 0, 5], (2, 0, 5)):
            tally = Tally(counts)
            self.assertEqual((tally.counts, tally.total, len(tally)), ((2, 0, 5), 7, 3))
            self.assertIs(type(tally.counts), tuple)
        self.assertEqual(Tally([0]).total, 0)
        self.assertEqual(Tally([10 ** 30] * 40).total, 40 * 10 ** 30)

    def test_values_that_are_no_counts(self):
        for value in NO_COUNTS:
            self.assert_fault(InvalidTally, {"counts": value}, Tally, value)
            with self.assertRaises(InvalidTally) as caught:
                Tally(value)
            self.assertIs(caught.exception.counts, value)

    def test_list_that_was_passed(self):
        counts = [1, 2]
        tally = Tally(counts)
        counts.append(3)
        self.assertEqual((counts, tally.counts), ([1, 2, 3], (1, 2)))

    def test_equality(self):
        self.assertTrue(Tally([1, 2]) == Tally((1, 2)))
        self.assertFalse(Tally([1, 2]) != Tally((1, 2)))
        for other in (Tally([2, 1]), Tally([1, 2, 0]), (1, 2), [1, 2], None, 3):
            self.assertFalse(Tally([1, 2]) == other)
            self.assertTrue(Tally([1, 2]) != other)

    def test_sum(self):
        first, second = Tally([1, 2]), Tally([0, 5])
        self.assertEqual((first + second).counts, (1, 7))
        self.assertIs(type(first + second), Tally)
        self.assertEqual((first.counts, second.counts), ((1, 2), (0, 5)))
        with self.assertRaises(InvalidTally) as caught:
            first + Tally([7, 8, 9])
        self.assertEqual(caught.exception.counts, (7, 8, 9))

    def test_sum_is_the_tally_of_both_runs(self):
        house = chain(3, 2)
        for first, second in product(([], [0], [2, 1, 1]), repeat=2):
            both = Tally.of_run(house, first) + Tally.of_run(house, second)
            self.assertEqual(both, Tally.of_run(house, first + second))

    def test_at(self):
        tally = Tally([4, 0, 6])
        self.assertEqual([tally.at(lamp) for lamp in range(3)], [4, 0, 6])
        for value in no_lamps(House(3, 2)):
            self.assert_fault(InvalidLamp, {"lamp": value}, tally.at, value)

    def test_of_run(self):
        house = chain(16, 2)
        run = [15, 0, 15]
        self.assertEqual(Tally.of_run(house, run).counts, (1,) + (0,) * 14 + (2,))
        self.assertEqual(Tally.of_run(house, []).counts, (0,) * 16)
        self.assertEqual(run, [15, 0, 15])
        self.assertEqual(Tally.of_run(house, run * 300).total, 900)
        for value in no_lamps(house):
            self.assert_fault(InvalidLamp, {"lamp": value}, Tally.of_run, house, [0, value, "later"])


class FitsTest(FaultTest):
    """Points 31 and 32."""

    def test_loads(self):
        house = House(4, 2, [(2, 0), (0, 1), (3, 1)])
        self.assertEqual(loads(house, Tally([1, 10, 100, 1000])), [100, 1101, 0, 0])
        loads(house, Tally([1, 0, 0, 0])).append(5)
        self.assertEqual(loads(house, Tally([1, 0, 0, 0])), [0, 1, 0, 0])
        self.assertEqual(loads(House(1, 2), Tally([9])), [0])

    def test_fits(self):
        house = floors([2, 1], 2)
        source, target = (1, 1, 0), (0, 0, 0)
        found = [counts for counts in product(range(5), repeat=3) if fits(house, source, target, Tally(counts))]
        self.assertEqual(found, [(1, 1, 0), (1, 1, 2)])

    def test_fits_exactly_if_some_run_has_the_tally(self):
        for house in [*small_houses()[::2], House(3, 2, [(1, 2), (2, 0)])]:
            for source in all_states(house):
                found = tallies_from(house, source)
                most = max(max(counts) for _, counts in found) + 1
                for counts in product(range(min(most, 5) + 1), repeat=house.count):
                    for target in all_states(house):
                        self.assertIs(fits(house, source, target, Tally(counts)), (target, counts) in found)

    def test_a_house_of_16_lamps(self):
        house = House(16, 10)
        self.assertTrue(fits(house, (9,) * 16, (0,) * 16, Tally([9] * 16)))
        self.assertTrue(fits(house, (9,) * 16, (9,) * 16, Tally([0] * 16)))
        self.assertFalse(fits(house, (9,) * 16, (9,) * 16, Tally([0] * 15 + [10])))
        self.assertFalse(fits(house, (0,) * 16, (9,) * 16, Tally([1] * 16)))

    def test_wrong_number_of_counts(self):
        house = chain(2, 2)
        for counts in ((0,), (0, 0, 0)):
            tally = Tally(counts)
            self.assert_fault(InvalidTally, {"counts": counts}, loads, house, tally)
            self.assert_fault(InvalidTally, {"counts": counts}, fits, house, (0, 0), (1, 1), tally)

    def test_values_that_are_no_tallies(self):
        for value in (None, (0, 0), [0, 0], 3):
            self.assert_fault(InvalidTally, {"counts": value}, loads, chain(2, 2), value)
            self.assert_fault(InvalidTally, {"counts": value}, fits, chain(2, 2), (0, 0), (0, 0), value)

    def test_first_wrong_argument(self):
        house = chain(2, 2)
        for value in no_states(house):
            self.assert_fault(InvalidState, {"state": value}, fits, house, value, "later", Tally([0]))
            self.assert_fault(InvalidState, {"state": value}, fits, house, (0, 0), value, Tally([0]))
