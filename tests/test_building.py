from huefall.building import careful_run, next_careful, normal_run
from huefall.errors import InvalidState, InvalidTally, TooLong
from huefall.house import House
from huefall.lengths import greatest_tally, longest_run, worth
from huefall.runs import play
from huefall.shapes import chain, floors
from huefall.states import bright_state, dark_state
from huefall.tally import Tally
from tests.helpers import (
    FaultTest,
    all_states,
    great_houses,
    lamps_below,
    moves_from,
    no_states,
    put_in_by_the_words,
    reachable_pairs,
    small_houses,
    tallies_between,
)

SMALL = small_houses()


def put_in(house, source, counts):
    below = [lamps_below(house.wires, lamp) for lamp in range(house.count)]
    return put_in_by_the_words(house, below, source, counts)


class NormalRunTest(FaultTest):
    """Points 42 and 44."""

    def test_ordinary_runs(self):
        house = chain(2, 3)
        self.assertEqual(normal_run(house, (2, 0), Tally([2, 4])), [0, 1, 1, 0, 1, 1])
        self.assertEqual(normal_run(house, (2, 0), Tally([2, 1])), [0, 1, 0])
        self.assertEqual(normal_run(house, (2, 1), Tally([2, 3])), [1, 0, 1, 1, 0])
        house = House(3, 2, [(2, 0)])
        self.assertEqual(normal_run(house, (0, 1, 1), Tally([1, 1, 1])), [2, 0, 1])

    def test_empty_tally(self):
        for house in great_houses():
            self.assertEqual(normal_run(house, bright_state(house), Tally([0] * 16)), [])
            self.assertEqual(normal_run(house, dark_state(house), Tally([0] * 16), limit=0), [])

    def test_each_tally_that_fits(self):
        for house in SMALL:
            for (source, target), tallies in tallies_between(house).items():
                for counts in tallies:
                    run = normal_run(house, source, Tally(counts))
                    self.assertEqual(run, put_in(house, source, counts))
                    self.assertEqual(Tally.of_run(house, run).counts, counts)
                    self.assertEqual(play(house, source, run), target)

    def test_some_moves_left_over(self):
        house = chain(2, 3)
        for source, counts in (((1, 2), (2, 0)), ((1, 0), (1, 3)), ((0, 0), (0, 1)), ((0, 2), (0, 3))):
            self.assert_fault(InvalidTally, {"counts": counts}, normal_run, house, source, Tally(counts))
        self.assertEqual(normal_run(house, (1, 0), Tally([1, 2])), [0, 1, 1])

    def test_left_over_exactly_if_a_count_is_too_great(self):
        for house in SMALL:
            for source in all_states(house):
                greatest = greatest_tally(house, source, dark_state(house)).counts
                self.assertEqual(len(normal_run(house, source, Tally(greatest))), sum(greatest))
                for lamp in range(house.count):
                    more = (*greatest[:lamp], greatest[lamp] + 1, *greatest[lamp + 1:])
                    load = sum(greatest[upper] for upper in house.above(lamp))
                    self.assertEqual(greatest[lamp], source[lamp] + (house.hues - 1) * load)
                    self.assert_fault(InvalidTally, {"counts": more}, normal_run, house, source, Tally(more))

    def test_any_counts_that_are_not_too_great(self):
        house = House(3, 3, [(1, 2), (2, 0)])
        self.assertEqual(normal_run(house, (1, 2, 0), Tally([5, 1, 2])), put_in(house, (1, 2, 0), (5, 1, 2)))
        self.assertEqual(len(normal_run(house, (1, 2, 0), Tally([5, 1, 2]))), 8)

    def test_limit(self):
        house = chain(2, 3)
        self.assertEqual(len(normal_run(house, (2, 0), Tally([2, 4]), limit=6)), 6)
        self.assert_fault(TooLong, {"length": 6}, normal_run, house, (2, 0), Tally([2, 4]), limit=5)
        house = House(1, 10)
        self.assert_fault(InvalidTally, {"counts": (1000,)}, normal_run, house, (9,), Tally([1000]))
        self.assert_fault(TooLong, {"length": 1001}, normal_run, house, (9,), Tally([1001]))

    def test_order_of_the_errors(self):
        house = chain(2, 3)
        for value in no_states(house):
            self.assert_fault(InvalidState, {"state": value}, normal_run, house, value, Tally([9]), limit=0)
        for counts in ((9,), (9, 9, 9)):
            fault = {"counts": counts}
            self.assert_fault(InvalidTally, fault, normal_run, house, (0, 0), Tally(counts), limit=0)
        self.assert_fault(TooLong, {"length": 10 ** 30}, normal_run, house, (0, 0), Tally([0, 10 ** 30]))
        fault = {"counts": (0, 9)}
        self.assert_fault(InvalidTally, fault, normal_run, house, (0, 0), Tally([0, 9]), limit=9)
        self.assert_fault(TooLong, {"length": 9}, normal_run, house, (0, 0), Tally([0, 9]), limit=8)

    def test_values_that_are_no_tallies(self):
        for value in (None, (0, 0), [0, 0], 3, True):
            self.assert_fault(InvalidTally, {"counts": value}, normal_run, chain(2, 3), (0, 0), value)


class CarefulRunTest(FaultTest):
    """Points 43 and 44."""

    def test_ordinary_runs(self):
        house = chain(2, 3)
        self.assertEqual(careful_run(house, (2, 0), (0, 0)), [0, 1, 1, 0, 1, 1])
        self.assertEqual(careful_run(house, (1, 1), (0, 1)), [1, 0, 1])
        house = floors([2, 1], 2)
        self.assertEqual(careful_run(house, (1, 1, 0), (0, 0, 0)), [0, 2, 1, 2])
        self.assertEqual(careful_run(house, (1, 1, 1), (1, 0, 1)), [2, 1])
        house = House(3, 2)
        self.assertEqual(careful_run(house, (1, 1, 1), (0, 1, 0)), [0, 2])

    def test_smallest_lamp_from_which_the_target_stays_reachable(self):
        for house in SMALL:
            pairs = reachable_pairs(house, careful=True)
            for source, target in pairs:
                run, state = [], source
                while state != target:
                    moves = moves_from(house, state, True)
                    lamp, state = min((lamp, other) for lamp, other in moves if (other, target) in pairs)
                    run.append(lamp)
                self.assertEqual(careful_run(house, source, target), run)
                self.assertEqual(next_careful(house, source, target), run[0] if run else None)

    def test_consists_of_careful_moves_with_the_greatest_tally(self):
        for house in SMALL:
            for source, target in reachable_pairs(house):
                run = careful_run(house, source, target)
                self.assertEqual(play(house, source, run, careful=True), target)
                self.assertEqual(Tally.of_run(house, run), greatest_tally(house, source, target))
                self.assertEqual(len(run), worth(house, source) - worth(house, target))

    def test_equal_states(self):
        for house in great_houses():
            for state in (dark_state(house), bright_state(house)):
                self.assertEqual(careful_run(house, state, state, limit=0), [])
                self.assertIsNone(next_careful(house, state, state))

    def test_a_house_of_16_lamps(self):
        house = floors([4, 4, 4, 4], 10)
        source, target = (0,) * 7 + (1,) + (0,) * 8, dark_state(house)
        run = careful_run(house, source, target, limit=1369)
        self.assertEqual(len(run), 1369)
        self.assertEqual(play(house, source, run, careful=True), target)
        self.assert_fault(TooLong, {"length": 1369}, careful_run, house, source, target)

    def test_limit(self):
        house = chain(3, 10)
        source, target = (9, 9, 9), (0, 0, 0)
        self.assertEqual(len(careful_run(house, source, target)), 999)
        self.assertEqual(len(careful_run(house, source, target, limit=999)), 999)
        self.assert_fault(TooLong, {"length": 999}, careful_run, house, source, target, limit=998)
        house = chain(4, 10)
        self.assertEqual(len(careful_run(house, (1, 0, 0, 0), (0, 0, 0, 0))), 1000)
        self.assert_fault(TooLong, {"length": 1001}, careful_run, house, (1, 0, 0, 1), (0, 0, 0, 0))

    def test_too_long_comes_before_any_part_of_the_run(self):
        house = chain(16, 10)
        bright, dark = bright_state(house), dark_state(house)
        self.assert_fault(TooLong, {"length": 10 ** 16 - 1}, careful_run, house, bright, dark)
        fault = {"length": 10 ** 16 - 1}
        self.assert_fault(TooLong, fault, careful_run, house, bright, dark, limit=10 ** 16 - 2)

    def test_first_move_of_a_run_that_is_too_long(self):
        house = chain(16, 10)
        self.assertEqual(next_careful(house, bright_state(house), dark_state(house)), 15)
        self.assertEqual(next_careful(house, (9,) + (0,) * 15, dark_state(house)), 0)
        house = House(16, 10, [(lamp, lamp + 8) for lamp in range(8)])
        self.assertEqual(next_careful(house, bright_state(house), dark_state(house)), 8)
        self.assertEqual(next_careful(house, (9,) * 9 + (0,) * 7, dark_state(house)), 1)

    def test_not_reachable(self):
        for house in SMALL:
            self.assert_needs_reachable(house, careful_run, limit=0)
            self.assert_needs_reachable(house, next_careful)

    def test_values_that_are_no_states(self):
        self.assert_checks_states(chain(2, 3), careful_run, 2, limit=0)
        self.assert_checks_states(chain(2, 3), next_careful, 2)

    def test_runs_are_new_lists(self):
        house = chain(2, 3)
        for function in (careful_run, longest_run):
            run = function(house, (2, 0), (0, 0))
            kept = list(run)
            run.clear()
            self.assertEqual(function(house, (2, 0), (0, 0)), kept)
