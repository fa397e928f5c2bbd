from huefall.errors import InvalidLamp
from huefall.house import House
from huefall.lengths import greatest_tally, least_tally, weights
from huefall.shapes import chain, hillside
from huefall.signs import greatest_by_ways, least_by_signs, sign, sign_row, way_number, way_row
from huefall.states import bright_state, dark_state
from tests.helpers import FaultTest, all_houses, great_houses, lamps_below, no_lamps, reachable_pairs, small_houses

SMALL = [*small_houses(), *all_houses(4, 3)[::23]]


def number_by_the_words(house, upper, lower, factor):
    """The way number or the sign as point 40 tells it, by going down every path."""
    below = lamps_below(house.wires, upper)
    if upper == lower:
        return 1
    if lower not in below:
        return 0
    return factor * sum(number_by_the_words(house, middle, lower, factor) for middle in below)


class NumbersTest(FaultTest):
    """Point 40."""

    def test_ordinary_numbers(self):
        house = House(4, 3, [(0, 1), (0, 2), (1, 3), (2, 3)])
        self.assertEqual([way_number(house, 0, lamp) for lamp in range(4)], [1, 2, 2, 10])
        self.assertEqual([sign(house, 0, lamp) for lamp in range(4)], [1, -1, -1, 1])
        self.assertEqual(way_row(house, 3), [10, 2, 2, 1])
        self.assertEqual(sign_row(house, 3), [1, -1, -1, 1])
        self.assertEqual((way_number(house, 1, 2), sign(house, 3, 0)), (0, 0))

    def test_agrees_with_the_words(self):
        for house in SMALL:
            lamps = range(house.count)
            for lower in lamps:
                ways = [number_by_the_words(house, upper, lower, house.hues - 1) for upper in lamps]
                signs = [number_by_the_words(house, upper, lower, -1) for upper in lamps]
                self.assertEqual(way_row(house, lower), ways)
                self.assertEqual(sign_row(house, lower), signs)
                self.assertEqual([way_number(house, upper, lower) for upper in lamps], ways)
                self.assertEqual([sign(house, upper, lower) for upper in lamps], signs)
                self.assertEqual([(way - sign) % house.hues for way, sign in zip(ways, signs)], [0] * house.count)

    def test_weights_are_sums_of_way_numbers(self):
        for house in [*SMALL, *great_houses()]:
            lamps = range(house.count)
            sums = [sum(way_number(house, upper, lower) for lower in lamps) for upper in lamps]
            self.assertEqual(sums, weights(house))

    def test_great_houses(self):
        house = chain(16, 10)
        self.assertEqual(way_number(house, 0, 15), 9 * 10 ** 14)
        self.assertEqual(sign_row(house, 15), [0] * 14 + [-1, 1])
        house = hillside(4, 4, 10)
        self.assertEqual(sign_row(house, 5), [1, -1, 0, 0, -1, 1] + [0] * 10)

    def test_rows_are_new_lists(self):
        way_row(chain(2, 2), 0).clear()
        sign_row(chain(2, 2), 0).clear()
        self.assertEqual((way_row(chain(2, 2), 0), sign_row(chain(2, 2), 0)), ([1, 0], [1, 0]))

    def test_values_that_are_no_lamps(self):
        house = chain(3, 3)
        for value in no_lamps(house):
            for function in (way_number, sign):
                self.assert_fault(InvalidLamp, {"lamp": value}, function, house, value, "later")
                self.assert_fault(InvalidLamp, {"lamp": value}, function, house, 2, value)
            for function in (way_row, sign_row):
                self.assert_fault(InvalidLamp, {"lamp": value}, function, house, value)


class SumsTest(FaultTest):
    """The sums of point 40."""

    def test_least_and_greatest_counts(self):
        for house in SMALL:
            for source, target in reachable_pairs(house):
                least = list(least_tally(house, source, target).counts)
                greatest = list(greatest_tally(house, source, target).counts)
                self.assertEqual(least_by_signs(house, source, target), least)
                self.assertEqual(greatest_by_ways(house, source, target), greatest)

    def test_great_houses(self):
        for house in great_houses():
            dark, bright = dark_state(house), bright_state(house)
            greatest = greatest_tally(house, bright, dark).counts
            self.assertEqual(least_by_signs(house, bright, dark), list(least_tally(house, bright, dark).counts))
            self.assertEqual(greatest_by_ways(house, bright, dark), list(greatest))
            self.assertEqual(greatest_by_ways(house, dark, bright), [-count for count in greatest])
            self.assertEqual(least_by_signs(house, bright, bright), [0] * 16)
            self.assertEqual(greatest_by_ways(house, dark, dark), [0] * 16)

    def test_targets_that_are_not_reachable(self):
        house = chain(2, 3)
        self.assertEqual(greatest_by_ways(house, (0, 2), (1, 0)), [-1, 0])
        self.assertEqual(least_by_signs(house, (0, 2), (1, 0)), [2, 0])
        self.assertEqual(greatest_by_ways(house, (1, 1), (2, 2)), [-1, -3])

    def test_values_that_are_no_states(self):
        for function in (least_by_signs, greatest_by_ways):
            self.assert_checks_states(chain(2, 3), function, 2)
