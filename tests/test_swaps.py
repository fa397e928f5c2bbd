from itertools import product

from huefall.errors import InvalidLamp
from huefall.house import House
from huefall.runs import first_refused, play
from huefall.shapes import chain, floors
from huefall.swaps import is_swap, neighbours, sorted_form
from tests.helpers import FaultTest, all_houses, all_states, lamps_below, no_lamps

SMALL = all_houses(3, 2)
RUNS = [list(run) for length in range(5) for run in product(range(3), repeat=length)]


def independent(house, first, second):
    below = lamps_below(house.wires, first)
    return first != second and second not in below and first not in lamps_below(house.wires, second)


def all_swaps(house, run):
    """All runs that swaps lead to from the run, found by swapping."""
    found = [run]
    for other in found:
        for index in range(len(run) - 1):
            if independent(house, other[index], other[index + 1]):
                swapped = other[:index] + other[index:index + 2][::-1] + other[index + 2:]
                if swapped not in found:
                    found.append(swapped)
    return found


class SwapsTest(FaultTest):
    """Points 21 and 22."""

    def test_ordinary_runs(self):
        house = floors([2, 1], 2)
        self.assertTrue(is_swap(house, [1, 0, 2], [0, 1, 2]))
        self.assertFalse(is_swap(house, [1, 2, 0], [0, 1, 2]))
        self.assertFalse(is_swap(house, [0], [0, 0]))
        self.assertFalse(is_swap(house, [0], [1]))
        self.assertEqual(sorted_form(house, [1, 0, 2, 1, 0]), [0, 1, 2, 0, 1])
        self.assertEqual(neighbours(house, [1, 0, 2, 1, 0]), [[0, 1, 2, 1, 0], [1, 0, 2, 0, 1]])

    def test_empty_run_and_equal_runs(self):
        house = chain(2, 2)
        self.assertIs(is_swap(house, [], []), True)
        self.assertIs(is_swap(house, [0, 1], [0, 1]), True)
        self.assertEqual((sorted_form(house, []), neighbours(house, [])), ([], []))
        self.assertEqual(neighbours(house, [0]), [])

    def test_same_lamp_is_not_swapped(self):
        self.assertEqual(neighbours(House(2, 2), [0, 0, 1]), [[0, 1, 0]])

    def test_sorted_form_is_the_smallest_swap(self):
        for house in SMALL:
            for run in RUNS:
                swaps = all_swaps(house, run)
                self.assertEqual(sorted_form(house, run), min(swaps))
                self.assertEqual([other for other in neighbours(house, run) if other not in swaps], [])

    def test_is_swap_agrees_with_swapping(self):
        for house in SMALL[::3]:
            for first in RUNS[:40]:
                swaps = all_swaps(house, first)
                for second in RUNS[:40]:
                    self.assertIs(is_swap(house, first, second), second in swaps)

    def test_swaps_agree_at_comparable_lamps(self):
        for house in SMALL[::3]:
            pairs = [(upper, lower) for upper in range(3) for lower in lamps_below(house.wires, upper)]
            for first in RUNS[40:]:
                for second in RUNS[40:]:
                    agree = sorted(first) == sorted(second)
                    for pair in pairs:
                        kept = [[lamp for lamp in run if lamp in pair] for run in (first, second)]
                        agree = agree and kept[0] == kept[1]
                    self.assertIs(is_swap(house, first, second), agree)

    def test_neighbours_swap_two_moves_each(self):
        for house in SMALL:
            for run in RUNS:
                expected = []
                for index in range(len(run) - 1):
                    if independent(house, run[index], run[index + 1]):
                        expected.append(run[:index] + [run[index + 1], run[index]] + run[index + 2:])
                self.assertEqual(neighbours(house, run), expected)

    def test_possible_runs_stay_possible(self):
        for house in SMALL:
            for state in all_states(house):
                for run in RUNS[:40]:
                    for careful in (False, True):
                        if first_refused(house, state, run, careful=careful) is None:
                            last = play(house, state, run, careful=careful)
                            for other in neighbours(house, run):
                                self.assertEqual(play(house, state, other, careful=careful), last)

    def test_a_run_of_some_hundred_moves(self):
        run = [15, 3, 7] * 200
        self.assertEqual(sorted_form(House(16, 10), run), [3] * 200 + [7] * 200 + [15] * 200)
        self.assertEqual(sorted_form(chain(16, 10), run), run)
        self.assertEqual(len(neighbours(House(16, 10), run)), 599)
        self.assertTrue(is_swap(House(16, 10), run, run[::-1]))

    def test_lists(self):
        house, run, other = House(3, 2), [2, 1, 0], [0, 1, 2]
        self.assertTrue(is_swap(house, run, other))
        sorted_form(house, run).append(1)
        for found in neighbours(house, run):
            found.clear()
        self.assertEqual((run, other), ([2, 1, 0], [0, 1, 2]))
        self.assertEqual(sorted_form(house, run), [0, 1, 2])
        self.assertEqual(neighbours(house, run), [[1, 2, 0], [2, 0, 1]])

    def test_values_that_are_no_lamps(self):
        house = chain(3, 2)
        for value in no_lamps(house):
            for function in (sorted_form, neighbours):
                for run in ([value], [0, value, "later"], [0, 1, value]):
                    self.assert_fault(InvalidLamp, {"lamp": value}, function, house, run)
            self.assert_fault(InvalidLamp, {"lamp": value}, is_swap, house, [0, value], ["later"])
            self.assert_fault(InvalidLamp, {"lamp": value}, is_swap, house, [0, 1], [value, "later"])
