from huefall.errors import DarkLamp, InvalidLamp, InvalidState, LitBeneath
from huefall.house import House
from huefall.runs import counts_of, each_state, first_refused, play, states_along
from huefall.shapes import chain, stairs
from huefall.states import bright_state, dark_state, mirror
from tests.helpers import FaultTest, all_states, moves_from, no_lamps, no_states, small_houses

SMALL = small_houses()


def runs_from(house, state, careful, most):
    """All pairs of a possible run of at most so many moves and the state that it leads to."""
    found = [([], state)]
    for run, last in found:
        if len(run) < most:
            found += [([*run, lamp], after) for lamp, after in moves_from(house, last, careful)]
    return found


def listed(house, state, run, *, careful=False):
    return list(each_state(house, state, run, careful=careful))


class RunsTest(FaultTest):
    """Points 17 and 18."""

    def test_example(self):
        self.assertEqual(play(stairs([None, 0, 0], 2), (1, 1, 0), [0, 2]), (0, 0, 0))

    def test_agrees_with_moves_made_by_hand(self):
        for house in SMALL:
            for state in all_states(house):
                for careful in (False, True):
                    for run, last in runs_from(house, state, careful, 3):
                        self.assertEqual(play(house, state, run, careful=careful), last)
                        self.assertIsNone(first_refused(house, state, run, careful=careful))

    def test_states_along(self):
        house = chain(3, 2)
        states = [(1, 0, 0), (0, 1, 1), (0, 0, 0)]
        self.assertEqual(states_along(house, (1, 0, 0), [0, 1]), states)
        self.assertEqual(listed(house, (1, 0, 0), [0, 1]), states)

    def test_empty_run(self):
        house = chain(16, 10)
        for state in (dark_state(house), bright_state(house)):
            for careful in (False, True):
                self.assertEqual(play(house, state, [], careful=careful), state)
                self.assertEqual(states_along(house, state, [], careful=careful), [state])
                self.assertEqual(listed(house, state, [], careful=careful), [state])
                self.assertIsNone(first_refused(house, state, [], careful=careful))
        self.assertEqual(counts_of(house, []), [0] * 16)

    def test_a_run_of_some_hundred_moves(self):
        house = chain(16, 2)
        state = (0,) * 6 + (1,) * 10
        # On a chain a careful move lowers the number that the state spells by 1.
        run = [15 - (step & -step).bit_length() + 1 for step in range(1, 1024)]
        self.assertEqual(play(house, state, run, careful=True), dark_state(house))
        along = states_along(house, state, run, careful=True)
        self.assertEqual([int("".join(map(str, hues)), 2) for hues in along], list(range(1023, -1, -1)))
        fault = {"lamp": 15, "step": 1023}
        self.assert_fault(DarkLamp, fault, play, house, state, [*run, 15], careful=True)
        self.assertEqual(first_refused(house, state, [*run, 15], careful=True), 1023)

    def test_refused_moves(self):
        house = House(4, 2, [(2, 3), (2, 1), (1, 0)])
        for function in (play, states_along, listed):
            fault = {"lamp": 3, "step": 1}
            self.assert_fault(DarkLamp, fault, function, house, (0, 1, 1, 1), [3, 3, 2])
            self.assert_fault(DarkLamp, fault, function, house, (0, 1, 1, 1), [3, 3, 2], careful=True)
            fault = {"lamp": 2, "step": 1, "lower": 1}
            self.assert_fault(LitBeneath, fault, function, house, (0, 1, 1, 1), [3, 2], careful=True)
        self.assertEqual(first_refused(house, (0, 1, 1, 1), [3, 3, 2]), 1)
        self.assertEqual(first_refused(house, (0, 1, 1, 1), [3, 2], careful=True), 1)
        self.assertIsNone(first_refused(house, (0, 1, 1, 1), [3, 2]))
        self.assertEqual(first_refused(house, (0, 0, 0, 0), [0]), 0)

    def test_counts(self):
        self.assertEqual(counts_of(chain(4, 2), [3, 0, 3, 3, 1]), [1, 1, 0, 3])

    def test_lists(self):
        house, run = chain(2, 3), [0, 1]
        for function in (play, states_along, listed, first_refused):
            function(house, (2, 2), run)
        counts_of(house, run).append(1)
        states_along(house, (2, 2), run).append(1)
        self.assertEqual(run, [0, 1])
        self.assertEqual(counts_of(house, run), [1, 1])
        self.assertEqual(states_along(house, (2, 2), run), [(2, 2), (1, 1), (1, 0)])

    def test_values_that_are_no_states_or_lamps(self):
        house = chain(3, 3)
        for function in (play, states_along, listed, first_refused):
            for value in no_states(house):
                self.assert_fault(InvalidState, {"state": value}, function, house, value, ["no lamp"])
            for value in no_lamps(house):
                # The first move would be refused, but arguments are checked before all moves.
                run = [0, value, "later"]
                self.assert_fault(InvalidLamp, {"lamp": value}, function, house, (0, 0, 0), run)
        for value in no_lamps(house):
            self.assert_fault(InvalidLamp, {"lamp": value}, counts_of, house, [0, value, "later"])


class EachStateTest(FaultTest):
    """The generator of huefall.runs."""

    def test_errors_of_arguments_come_when_the_iteration_begins(self):
        house = chain(2, 2)
        states = each_state(house, "no state", ["no lamp"])
        self.assert_fault(InvalidState, {"state": "no state"}, next, states)
        states = each_state(house, (0, 0), [0, "no lamp"])
        self.assert_fault(InvalidLamp, {"lamp": "no lamp"}, next, states)

    def test_states_before_a_refused_move_come_first(self):
        house = chain(2, 3)
        states = each_state(house, (1, 1), [1, 0, 0])
        self.assertEqual([next(states), next(states), next(states)], [(1, 1), (1, 0), (0, 2)])
        self.assert_fault(DarkLamp, {"lamp": 0, "step": 2}, next, states)
        states = each_state(house, (1, 2), [1, 0], careful=True)
        self.assertEqual([next(states), next(states)], [(1, 2), (1, 1)])
        self.assert_fault(LitBeneath, {"lamp": 0, "step": 1, "lower": 1}, next, states)

    def test_later_changes_to_the_run(self):
        run = [1, 0]
        states = each_state(chain(2, 3), (1, 1), run)
        found = [next(states)]
        run.clear()
        run.append("no lamp")
        self.assertEqual(found + list(states), [(1, 1), (1, 0), (0, 2)])


class ReversedRunsTest(FaultTest):
    """Points 19 and 20."""

    def test_reversed_runs_lead_between_mirrors(self):
        for house in SMALL:
            for state in all_states(house):
                for careful in (False, True):
                    for run, last in runs_from(house, state, careful, 3):
                        back = play(house, mirror(house, last), run[::-1], careful=careful)
                        self.assertEqual(back, mirror(house, state))

    def test_no_run_leads_back(self):
        for house in SMALL:
            for state in all_states(house):
                for run, last in runs_from(house, state, False, 4):
                    self.assertEqual(last == state, run == [])
