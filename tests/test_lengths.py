from huefall.errors import InvalidLamp, InvalidNumber, NotReachable, TooLong, WrongLength
from huefall.house import House
from huefall.lengths import (
    MOST_MOVES,
    greatest_tally,
    is_length,
    least_run,
    least_tally,
    length_range,
    longest_run,
    run_of_length,
    tally_of_length,
    tally_with,
    weights,
    worth,
)
from huefall.moves import after, allowed_lamps
from huefall.runs import play
from huefall.shapes import chain, floors, hillside, stairs
from huefall.states import bright_state, dark_state
from huefall.tally import Tally, fits
from tests.helpers import (
    NO_INTEGERS,
    FaultTest,
    all_states,
    great_houses,
    moves_from,
    no_lamps,
    reachable_pairs,
    small_houses,
    tallies_between,
    unreachable_pairs,
)

SMALL = small_houses()
BETWEEN = [(house, tallies_between(house)) for house in SMALL]


def along(house, counts):
    """The counts in the order of the order list."""
    return [counts[lamp] for lamp in house.order()]


class TalliesTest(FaultTest):
    """Points 33 and 34."""

    def test_example(self):
        house = floors([2, 1], 2)
        self.assertEqual(least_tally(house, (1, 1, 0), (0, 0, 0)).counts, (1, 1, 0))
        self.assertEqual(greatest_tally(house, (1, 1, 0), (0, 0, 0)).counts, (1, 1, 2))

    def test_along_the_order_list(self):
        house = House(3, 3, [(2, 0), (0, 1)])
        self.assertEqual(least_tally(house, (1, 0, 2), (2, 1, 0)).counts, (0, 0, 2))
        self.assertEqual(greatest_tally(house, (1, 0, 2), (2, 1, 0)).counts, (3, 9, 2))
        self.assertIs(type(least_tally(house, (1, 0, 2), (2, 1, 0))), Tally)
        self.assertIs(type(greatest_tally(house, (1, 0, 2), (2, 1, 0))), Tally)

    def test_least_and_greatest_of_all_runs(self):
        for house, between in BETWEEN:
            for (source, target), tallies in between.items():
                least = tuple(min(counts) for counts in zip(*tallies))
                greatest = tuple(max(counts) for counts in zip(*tallies))
                self.assertEqual(least_tally(house, source, target).counts, least)
                self.assertEqual(greatest_tally(house, source, target).counts, greatest)
                self.assertIn(least, tallies)
                self.assertIn(greatest, tallies)
                for counts in tallies:
                    self.assertTrue(all((count - low) % house.hues == 0 for count, low in zip(counts, least)))

    def test_careful_runs_have_the_greatest_tally(self):
        for house in SMALL:
            for source in all_states(house):
                waiting = [(source, (0,) * house.count)]
                for state, counts in waiting:
                    self.assertEqual(greatest_tally(house, source, state).counts, counts)
                    for lamp, other in moves_from(house, state, True):
                        pair = (other, (*counts[:lamp], counts[lamp] + 1, *counts[lamp + 1:]))
                        if pair not in waiting:
                            waiting.append(pair)

    def test_equal_states(self):
        for house in great_houses():
            for state in (dark_state(house), bright_state(house)):
                for function in (least_tally, greatest_tally):
                    self.assertEqual(function(house, state, state), Tally([0] * 16))

    def test_great_chain(self):
        house = chain(16, 10)
        dark, bright = dark_state(house), bright_state(house)
        self.assertEqual(least_tally(house, bright, dark).counts, (9,) + (0,) * 15)
        counts = tuple(9 * 10 ** lamp for lamp in range(16))
        self.assertEqual(greatest_tally(house, bright, dark).counts, counts)

    def test_not_reachable(self):
        for house in SMALL:
            for function in (least_tally, greatest_tally, length_range, least_run, longest_run):
                self.assert_needs_reachable(house, function)
            self.assert_needs_reachable(house, tally_with, 0, -1)

    def test_values_that_are_no_states(self):
        for function in (least_tally, greatest_tally, length_range, least_run, longest_run):
            self.assert_checks_states(chain(2, 3), function, 2)


class WorthTest(FaultTest):
    """Points 35 and 41."""

    def test_weights(self):
        self.assertEqual(weights(House(4, 3, [(2, 0), (0, 1), (3, 1)])), [3, 1, 9, 3])
        self.assertEqual(weights(floors([2, 1], 2)), [2, 2, 1])
        self.assertEqual(weights(House(16, 10)), [1] * 16)
        self.assertEqual(weights(chain(16, 10)), [10 ** (15 - lamp) for lamp in range(16)])
        self.assertEqual(weights(floors([4, 4, 4, 4], 10)), [37 ** 3] * 4 + [37 ** 2] * 4 + [37] * 4 + [1] * 4)

    def test_weights_are_a_new_list(self):
        house = chain(2, 2)
        weights(house).clear()
        self.assertEqual(weights(house), [2, 1])

    def test_worth(self):
        house = House(4, 3, [(2, 0), (0, 1), (3, 1)])
        self.assertEqual(worth(house, (2, 1, 0, 1)), 2 * 3 + 1 + 3)
        self.assertEqual(worth(house, dark_state(house)), 0)

    def test_worth_on_a_chain_is_the_number_that_the_text_spells(self):
        for count, hues in ((1, 10), (3, 2), (4, 3), (2, 10)):
            house = chain(count, hues)
            for state in all_states(house):
                self.assertEqual(worth(house, state), int("".join(map(str, state)), hues))
        house = chain(16, 10)
        self.assertEqual(worth(house, bright_state(house)), 10 ** 16 - 1)

    def test_moves_lower_the_worth(self):
        for house in SMALL:
            for state in all_states(house):
                for lamp in allowed_lamps(house, state):
                    loss = worth(house, state) - worth(house, after(house, state, lamp))
                    self.assertGreaterEqual(loss, 1)
                    self.assertEqual(loss % house.hues, 1)
                for lamp in allowed_lamps(house, state, careful=True):
                    self.assertEqual(worth(house, state) - worth(house, after(house, state, lamp)), 1)

    def test_total_of_the_greatest_tally(self):
        for house, between in BETWEEN:
            for source, target in between:
                lost = worth(house, source) - worth(house, target)
                self.assertEqual(greatest_tally(house, source, target).total, lost)

    def test_values_that_are_no_states(self):
        self.assert_checks_states(chain(2, 3), worth, 1)


class LengthsTest(FaultTest):
    """Points 36 and 37."""

    def test_example(self):
        house = chain(2, 3)
        self.assertEqual(length_range(house, (2, 0), (0, 0)), (3, 3, 6))
        self.assertEqual(run_of_length(house, (2, 0), (0, 0), 3), [0, 1, 0])

    def test_agrees_with_all_runs(self):
        for house, between in BETWEEN:
            for (source, target), tallies in between.items():
                lengths = sorted({sum(counts) for counts in tallies})
                least, step, greatest = length_range(house, source, target)
                self.assertIs(type(length_range(house, source, target)), tuple)
                self.assertEqual(step, house.hues)
                self.assertEqual(list(range(least, greatest + 1, step)), lengths)
                for length in range(-house.hues - 1, greatest + house.hues + 2):
                    self.assertIs(is_length(house, source, target, length), length in lengths)

    def test_no_length_without_a_run(self):
        for house in SMALL:
            for source, target in unreachable_pairs(house):
                found = [is_length(house, source, target, length) for length in range(-2, 9)]
                self.assertEqual(found, [False] * 11)

    def test_wrong_lengths(self):
        house = chain(2, 3)
        reasons = {-10 ** 30: "short", -3: "short", 0: "short", 2: "short", 4: "rest", 5: "rest"}
        reasons.update({7: "long", 8: "long", 9: "long", 10 ** 30: "long"})
        for length, reason in reasons.items():
            fault = {"length": length, "reason": reason}
            for function in (tally_of_length, run_of_length):
                self.assert_fault(WrongLength, fault, function, house, (2, 0), (0, 0), length)
            self.assertIs(is_length(house, (2, 0), (0, 0), length), False)
        for length in (3, 6):
            self.assertIs(is_length(house, (2, 0), (0, 0), length), True)
            self.assertEqual(tally_of_length(house, (2, 0), (0, 0), length).total, length)

    def test_the_only_length_of_equal_states(self):
        for house in great_houses():
            bright = bright_state(house)
            self.assertEqual(length_range(house, bright, bright), (0, 10, 0))
            self.assertTrue(is_length(house, bright, bright, 0))
            self.assertEqual(tally_of_length(house, bright, bright, 0).total, 0)
            for length, reason in ((-1, "short"), (1, "long"), (10, "long"), (-10, "short")):
                fault = {"length": length, "reason": reason}
                self.assert_fault(WrongLength, fault, tally_of_length, house, bright, bright, length)

    def test_great_numbers(self):
        house = chain(16, 10)
        dark, bright = dark_state(house), bright_state(house)
        self.assertEqual(length_range(house, bright, dark), (9, 10, 10 ** 16 - 1))
        self.assertTrue(is_length(house, bright, dark, 10 ** 15 - 1))
        self.assertFalse(is_length(house, bright, dark, 10 ** 15))
        tally = tally_of_length(house, bright, dark, 10 ** 15 + 9)
        self.assertEqual(tally.total, 10 ** 15 + 9)
        self.assertTrue(fits(house, bright, dark, tally))
        fault = {"length": 10 ** 16 + 9, "reason": "long"}
        self.assert_fault(WrongLength, fault, tally_of_length, house, bright, dark, 10 ** 16 + 9)

    def test_not_reachable_comes_first(self):
        house = chain(2, 3)
        for function in (tally_of_length, run_of_length):
            self.assert_fault(NotReachable, {"lamp": 0}, function, house, (0, 2), (1, 0), -1)

    def test_values_that_are_no_states(self):
        for function in (is_length, tally_of_length, run_of_length):
            self.assert_checks_states(chain(2, 3), function, 2, -1)


class TallyOfLengthTest(FaultTest):
    """Point 38."""

    def test_lamps_at_the_end_of_the_order_list_give_up_first(self):
        house = chain(2, 3)
        self.assertEqual(tally_of_length(house, (2, 0), (0, 0), 6).counts, (2, 4))
        self.assertEqual(tally_of_length(house, (2, 0), (0, 0), 3).counts, (2, 1))
        house = House(3, 2, [(2, 0), (2, 1)])
        found = [tally_of_length(house, (0, 0, 1), (0, 0, 0), length).counts for length in (3,)]
        self.assertEqual(found, [(1, 1, 1)])
        house = House(3, 2, [(2, 1), (1, 0)])
        self.assertEqual(greatest_tally(house, (0, 0, 1), (0, 0, 0)).counts, (2, 1, 1))
        self.assertEqual(tally_of_length(house, (0, 0, 1), (0, 0, 0), 2).counts, (0, 1, 1))

    def test_keeps_the_greatest_counts_at_the_beginning(self):
        for house, between in BETWEEN:
            for (source, target), tallies in between.items():
                for length in {sum(counts) for counts in tallies}:
                    same = [counts for counts in tallies if sum(counts) == length]
                    best = max(same, key=lambda counts: along(house, counts))
                    self.assertEqual(tally_of_length(house, source, target, length), Tally(best))


class TallyWithTest(FaultTest):
    """Point 39."""

    def test_counts_at_one_lamp(self):
        for house, between in BETWEEN:
            for (source, target), tallies in between.items():
                greatest = greatest_tally(house, source, target).counts
                for lamp in range(house.count):
                    occurring = {counts[lamp] for counts in tallies}
                    for count in range(-house.hues, greatest[lamp] + house.hues + 1):
                        if count not in occurring:
                            call = (tally_with, house, source, target, lamp, count)
                            self.assert_fault(InvalidNumber, {"number": count}, *call)
                        else:
                            self.check_tally_with(house, source, target, lamp, count, tallies)

    def check_tally_with(self, house, source, target, lamp, count, tallies):
        greatest = greatest_tally(house, source, target).counts
        fixed = {upper: greatest[upper] for upper in house.above(lamp)}
        fixed[lamp] = count
        suiting = [counts for counts in tallies if all(counts[at] == fixed[at] for at in fixed)]
        least = min(suiting, key=lambda counts: along(house, counts))
        self.assertEqual(tally_with(house, source, target, lamp, count), Tally(least))

    def test_ordinary_tally(self):
        house = House(4, 2, [(0, 1), (1, 2)])
        source, target = (1, 1, 1, 1), (0, 0, 0, 0)
        self.assertEqual(greatest_tally(house, source, target).counts, (1, 2, 4, 1))
        self.assertEqual(tally_with(house, source, target, 1, 2).counts, (1, 2, 0, 1))
        self.assertEqual(tally_with(house, source, target, 2, 2).counts, (1, 2, 2, 1))
        self.assertEqual(tally_with(house, source, target, 0, 1).counts, (1, 0, 0, 1))

    def test_great_counts(self):
        house = chain(16, 10)
        dark, bright = dark_state(house), bright_state(house)
        tally = tally_with(house, bright, dark, 15, 10 ** 15)
        self.assertEqual(tally.counts, tuple(9 * 10 ** lamp for lamp in range(15)) + (10 ** 15,))
        for count in (10 ** 16, 10 ** 16 + 10, -10, 1):
            self.assert_fault(InvalidNumber, {"number": count}, tally_with, house, bright, dark, 15, count)

    def test_order_of_the_errors(self):
        house = chain(2, 3)
        self.assert_checks_states(house, tally_with, 2, "no lamp", -1)
        for value in no_lamps(house):
            fault = {"lamp": value}
            self.assert_fault(InvalidLamp, fault, tally_with, house, (0, 0), (1, 0), value, -1)
        self.assert_fault(NotReachable, {"lamp": 0}, tally_with, house, (0, 0), (1, 0), 1, -1)
        for value in NO_INTEGERS:
            self.assert_fault(InvalidNumber, {"number": value}, tally_with, house, (2, 1), (1, 1), 0, value)


class ShortFormsTest(FaultTest):
    """Point 41."""

    def check(self, house, least_at):
        for source, target in reachable_pairs(house):
            differences = [before - behind for before, behind in zip(source, target)]
            counts = tuple(least_at(differences, lamp) % house.hues for lamp in range(house.count))
            self.assertEqual(least_tally(house, source, target).counts, counts)

    def test_chain(self):
        self.check(chain(3, 3), lambda d, lamp: d[lamp] - (d[lamp - 1] if lamp else 0))

    def test_stairs(self):
        parents = [None, 0, 0, None, 2]
        house = stairs(parents, 2)
        self.check(house, lambda d, lamp: d[lamp] - (0 if parents[lamp] is None else d[parents[lamp]]))

    def test_hillside(self):
        def least_at(d, lamp):
            row, column = lamp // 2, lamp % 2
            above = d[lamp - 2] if row else 0
            left = d[lamp - 1] if column else 0
            return d[lamp] - above - left + (d[lamp - 3] if row and column else 0)

        self.check(hillside(2, 2, 3), least_at)
        self.check(hillside(3, 2, 2), least_at)


class RunsTest(FaultTest):
    """Points 42 and 44, as far as huefall.lengths goes."""

    def test_runs_lead_to_the_target(self):
        for house, between in BETWEEN:
            for (source, target), tallies in between.items():
                runs = [least_run(house, source, target), longest_run(house, source, target)]
                wanted = [least_tally(house, source, target), greatest_tally(house, source, target)]
                for length in {sum(counts) for counts in tallies}:
                    runs.append(run_of_length(house, source, target, length))
                    wanted.append(tally_of_length(house, source, target, length))
                for run, tally in zip(runs, wanted):
                    self.assertIs(type(run), list)
                    self.assertEqual(Tally.of_run(house, run), tally)
                    self.assertEqual(play(house, source, run), target)

    def test_ordinary_runs(self):
        house = floors([2, 1], 2)
        self.assertEqual(least_run(house, (1, 1, 0), (0, 0, 0)), [1, 0])
        self.assertEqual(longest_run(house, (1, 1, 0), (0, 0, 0)), [1, 2, 0, 2])
        self.assertEqual(least_run(house, (1, 1, 0), (1, 1, 0)), [])

    def test_example_of_a_target_that_is_not_reachable(self):
        self.assert_fault(NotReachable, {"lamp": 0}, least_run, chain(2, 2), (0, 1), (1, 0))

    def test_limit(self):
        self.assertEqual(MOST_MOVES, 1000)
        house = chain(10, 2)
        bright, dark = bright_state(house), dark_state(house)
        self.assertEqual(len(longest_run(house, bright, dark, limit=1023)), 1023)
        self.assert_fault(TooLong, {"length": 1023}, longest_run, house, bright, dark)
        self.assert_fault(TooLong, {"length": 1023}, longest_run, house, bright, dark, limit=1022)
        self.assertEqual(len(run_of_length(house, bright, dark, 999)), 999)
        self.assertEqual(len(run_of_length(house, bright, dark, 999, limit=999)), 999)
        self.assert_fault(TooLong, {"length": 999}, run_of_length, house, bright, dark, 999, limit=998)
        self.assert_fault(TooLong, {"length": 1001}, run_of_length, house, bright, dark, 1001)
        self.assertEqual(least_run(house, bright, dark, limit=1), [0])
        self.assert_fault(TooLong, {"length": 1}, least_run, house, bright, dark, limit=0)
        for function in (least_run, longest_run):
            self.assertEqual(function(house, bright, bright, limit=0), [])

    def test_the_default_limit_is_just_reached(self):
        house = chain(10, 2)
        source, target = (1, 1, 1, 1, 1, 0, 1, 0, 0, 0), dark_state(house)
        self.assertEqual(worth(house, source), 1000)
        self.assertEqual(len(longest_run(house, source, target)), 1000)
        source = (1, 1, 1, 1, 1, 0, 1, 0, 0, 1)
        self.assert_fault(TooLong, {"length": 1001}, longest_run, house, source, target)

    def test_no_least_run_is_too_long(self):
        house = House(16, 10)
        run = least_run(house, bright_state(house), dark_state(house), limit=144)
        self.assertEqual(run, [lamp for lamp in reversed(range(16)) for _ in range(9)])
        for house in great_houses():
            self.assertLessEqual(len(least_run(house, bright_state(house), dark_state(house))), 144)

    def test_too_long_comes_before_any_part_of_the_run(self):
        house = chain(16, 10)
        bright, dark = bright_state(house), dark_state(house)
        length = 10 ** 16 - 1
        self.assert_fault(TooLong, {"length": length}, longest_run, house, bright, dark)
        self.assert_fault(TooLong, {"length": length}, longest_run, house, bright, dark, limit=length - 1)
        self.assert_fault(TooLong, {"length": length}, run_of_length, house, bright, dark, length)

    def test_order_of_the_errors(self):
        house = chain(2, 3)
        self.assert_fault(NotReachable, {"lamp": 0}, longest_run, house, (0, 0), (1, 0), limit=0)
        self.assert_fault(NotReachable, {"lamp": 0}, run_of_length, house, (0, 0), (1, 0), -1, limit=0)
        fault = {"length": 7, "reason": "long"}
        self.assert_fault(WrongLength, fault, run_of_length, house, (2, 0), (0, 0), 7, limit=0)
        fault = {"length": 4, "reason": "rest"}
        self.assert_fault(WrongLength, fault, run_of_length, house, (2, 0), (0, 0), 4, limit=0)
