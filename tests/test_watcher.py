import random

from huefall.counting import lower_count
from huefall.errors import InvalidLamp, InvalidLine, InvalidState, NoHistory, TooMany
from huefall.house import House
from huefall.shapes import chain, floors, hillside
from huefall.states import bright_state, dark_state, number_of, state_of
from huefall.watcher import MOST_WATCHED, Watcher
from tests.helpers import (
    NO_INTEGERS,
    FaultTest,
    Unequal,
    all_states,
    moves_from,
    no_lamps,
    no_states,
    searched,
    small_houses,
)

SMALL = small_houses()


def states_after(house, state, line):
    """All states that can follow the state by the line, by moves made by hand."""
    if line[0] == "move":
        return {other for lamp, other in moves_from(house, state, False) if lamp == line[1]}
    if line[0] == "some":
        return searched(house, state, False)
    if line[0] == "glimpse":
        return {state} if all(seen in (None, hue) for seen, hue in zip(line[1], state)) else set()
    found = {state}
    for _ in range(min(line[1], 300)):
        found = {other for one in found for _, other in moves_from(house, one, False)}
    return found


def downwards(house, states):
    return sorted(states, key=lambda state: number_of(house, state), reverse=True)


def random_line(house, draw):
    word = draw.choice(["move", "some", "moves", "moves", "glimpse", "glimpse"])
    if word == "move":
        return word, draw.randrange(house.count)
    if word == "moves":
        return word, draw.choice([0, 1, 1, 2, 3, 5])
    if word == "some":
        return (word,)
    return word, tuple(draw.choice([None, None, draw.randrange(house.hues)]) for _ in range(house.count))


def no_lines(house):
    """Values that are not lines of a story about the house."""
    hues = (None,) * (house.count - 1)
    values = [None, True, 0, "some", b"some", [], (), {}, ["some"], ["move", 0], {"some": 0}, Unequal(), 1.5]
    values += [("some", 0), ("some", None), ("Some",), ("",), (None,), (True,), (Unequal(),), (("some",),), (["some"],)]
    values += [("move",), ("moves",), ("glimpse",), ("move", 0, 0), ("moves", 1, 1), ("glimpse", (), ())]
    values += [("move", lamp) for lamp in [*no_lamps(house), Unequal()]]
    values += [("moves", number) for number in [*NO_INTEGERS, -1, -10 ** 30, Unequal()]]
    values += [("glimpse", value) for value in [None, 0, "", [*hues, 0], hues, (*hues, 0, 0), (*hues, house.hues)]]
    values += [(word, (*hues, None)) for word in ("some", "move", "moves", "Glimpse", "other", "")]
    values += [("glimpse", (*hues, value)) for value in (True, False, -1, "0", 1.0, Unequal())]
    return values + [(None, 0), ("goal", 0), (["move"], 0), (Unequal(), 0), ("other", Unequal())]


class FollowedTest(FaultTest):
    """Points 73 and 74: the possible states."""

    def test_ordinary_story(self):
        house = chain(2, 3)
        watcher = Watcher(house, (1, 1))
        self.assertEqual((watcher.possible, watcher.failed_at), ([(1, 1)], None))
        self.assertEqual(watcher(("some",)), 5)
        self.assertEqual(watcher.possible, [(1, 1), (1, 0), (0, 2), (0, 1), (0, 0)])
        self.assertEqual(watcher(("glimpse", (0, None))), 3)
        self.assertEqual(watcher(("moves", 1)), 2)
        self.assertEqual(watcher.possible, [(0, 1), (0, 0)])
        self.assertEqual((watcher.sure(0), watcher.sure(1)), (0, None))
        self.assertEqual(watcher(("move", 1)), 1)
        self.assertEqual((watcher.possible, watcher.failed_at), ([(0, 0)], None))
        self.assertEqual(watcher.history(), [(1, 1), (0, 2), (0, 2), (0, 1), (0, 0)])
        self.assertEqual(watcher(("move", 1)), 0)
        self.assertEqual((watcher.possible, watcher.failed_at), ([], 4))

    def test_agrees_with_stories_followed_by_hand(self):
        draw = random.Random(5)
        for house in SMALL:
            for _ in range(25):
                self.check_story(house, state_of(house, draw.randrange(house.hues ** house.count)), draw)

    def check_story(self, house, state, draw):
        watcher, stages, lines, failed_at = Watcher(house, state), [{state}], [], None
        for index in range(draw.randrange(1, 7)):
            line = random_line(house, draw)
            lines.append(line)
            stages.append({other for one in stages[-1] for other in states_after(house, one, line)})
            if failed_at is None and not stages[-1]:
                failed_at = index
            self.assertEqual(watcher(line), len(stages[-1]))
            self.assertEqual(watcher.possible, downwards(house, stages[-1]))
            self.assertEqual(watcher.failed_at, failed_at)
            for lamp in range(house.count):
                hues = {one[lamp] for one in stages[-1]}
                self.assertEqual(watcher.sure(lamp), hues.pop() if len(hues) == 1 else None)
            if failed_at is None:
                self.assertEqual(watcher.history(), self.history_by_the_words(house, stages, lines))
            else:
                self.assert_fault(NoHistory, {"index": failed_at}, watcher.history)

    def history_by_the_words(self, house, stages, lines):
        """The history as point 74 tells it."""
        found = [downwards(house, stages[-1])[0]]
        for line, states in zip(reversed(lines), reversed(stages[:-1])):
            before = [state for state in downwards(house, states) if found[0] in states_after(house, state, line)]
            found.insert(0, before[0])
        return found

    def test_no_lines(self):
        for house in SMALL:
            for state in all_states(house):
                watcher = Watcher(house, state)
                self.assertEqual((watcher.possible, watcher.failed_at), ([state], None))
                self.assertEqual(watcher.history(), [state])
                self.assertEqual([watcher.sure(lamp) for lamp in range(house.count)], list(state))

    def test_moves_with_no_move(self):
        for house in SMALL:
            watcher = Watcher(house, bright_state(house))
            watcher(("some",))
            states = watcher.possible
            self.assertEqual(watcher(("moves", 0)), len(states))
            self.assertEqual(watcher.possible, states)
            self.assertEqual(watcher.history(), [bright_state(house)] * 3)

    def test_more_moves_than_any_run_has(self):
        house = chain(8, 2)
        for number in (256, 1000, 10 ** 6, 10 ** 30, 10 ** 1000):
            watcher = Watcher(house, (1,) * 8)
            self.assertEqual(watcher(("moves", number)), 0)
            self.assertEqual((watcher.possible, watcher.failed_at), ([], 0))
        watcher = Watcher(house, (1,) * 8)
        self.assertEqual(watcher(("moves", 255)), 1)
        self.assertEqual(watcher.history(), [(1,) * 8, (0,) * 8])
        self.assertEqual(watcher(("moves", 0)), 1)
        self.assertEqual(watcher(("moves", 1)), 0)
        self.assertEqual(watcher.failed_at, 2)

    def test_glimpses_of_nothing_and_of_everything(self):
        house = floors([2, 1], 2)
        watcher = Watcher(house, (1, 1, 0))
        self.assertEqual(watcher(("glimpse", (None, None, None))), 1)
        self.assertEqual(watcher(("some",)), 7)
        self.assertEqual(watcher(("glimpse", (None, None, None))), 7)
        self.assertEqual(watcher(("glimpse", (0, 1, 1))), 1)
        self.assertEqual(watcher.possible, [(0, 1, 1)])
        self.assertEqual(watcher(("glimpse", (0, 1, 0))), 0)
        self.assertEqual(watcher.failed_at, 4)

    def test_lines_after_no_state_is_possible(self):
        house = chain(3, 2)
        watcher = Watcher(house, (0, 0, 1))
        self.assertEqual(watcher(("move", 0)), 0)
        for line in (("some",), ("moves", 0), ("move", 2), ("glimpse", (None, None, None)), ("moves", 10 ** 100)):
            self.assertEqual(watcher(line), 0)
            self.assertEqual((watcher.possible, watcher.failed_at, watcher.sure(1)), ([], 0, None))
            self.assert_fault(NoHistory, {"index": 0}, watcher.history)

    def test_failed_at_counts_the_lines_before(self):
        watcher = Watcher(chain(3, 2), (0, 1, 1))
        for number in (1, 1, 1):
            watcher(("moves", number))
        self.assertEqual(watcher.failed_at, None)
        self.assertEqual(watcher(("moves", 1)), 0)
        self.assertEqual(watcher(("some",)), 0)
        self.assertEqual(watcher.failed_at, 3)
        self.assert_fault(NoHistory, {"index": 3}, watcher.history)

    def test_history_takes_the_greatest_numbers(self):
        house = House(2, 3)
        watcher = Watcher(house, (2, 2))
        watcher(("some",))
        watcher(("moves", 2))
        self.assertEqual(watcher.history(), [(2, 2), (2, 2), (2, 0)])
        watcher(("glimpse", (None, 1)))
        self.assertEqual(watcher.history(), [(2, 2), (2, 2), (1, 1), (1, 1)])
        watcher(("move", 0))
        self.assertEqual(watcher.history(), [(2, 2), (2, 2), (1, 1), (1, 1), (0, 1)])

    def test_order_of_the_numbers_after_a_move(self):
        # After the move the dark lamp beneath is brightest, so the states change places.
        house = House(3, 3, [(1, 0)])
        watcher = Watcher(house, (0, 2, 2))
        watcher(("some",))
        watcher(("move", 1))
        self.assertEqual(watcher.possible, downwards(house, watcher.possible))
        self.assertEqual(len(watcher.possible), len(set(watcher.possible)))

    def test_a_house_of_16_lamps(self):
        house = hillside(4, 4, 10)
        state = (0,) * 14 + (1, 2)
        self.assertEqual(lower_count(house, state), 13)
        watcher = Watcher(house, state)
        self.assertEqual(watcher(("moves", 3)), 1)
        self.assertEqual(watcher(("some",)), 10)
        self.assertEqual(watcher(("glimpse", (None,) * 14 + (0, None))), 10)
        self.assertEqual(watcher.possible, [(0,) * 15 + (hue,) for hue in range(9, -1, -1)])
        self.assertEqual(watcher.sure(14), 0)
        self.assertEqual(watcher.history()[2], (0,) * 15 + (9,))

    def test_many_lines(self):
        watcher = Watcher(chain(8, 2), (1,) * 8)
        for _ in range(255):
            self.assertGreater(watcher(("moves", 1)), 0)
            self.assertGreater(watcher(("glimpse", (None,) * 8)), 0)
        self.assertEqual(watcher.possible, [(0,) * 8])
        self.assertEqual(len(watcher.history()), 511)


class CheckedTest(FaultTest):
    """Points 4 and 73: what is refused."""

    def test_lower_counts_of_256_and_257(self):
        self.assertEqual(MOST_WATCHED, 256)
        house = chain(8, 2)
        self.assertEqual(len(Watcher(house, (1,) * 8).possible), 1)
        watcher = Watcher(House(16, 10), (3,) * 4 + (0,) * 12)
        self.assertEqual(watcher(("some",)), 256)
        house = chain(9, 2)
        state = state_of(house, 255)
        self.assertEqual((lower_count(house, state), Watcher(house, state)(("some",))), (256, 256))
        state = state_of(house, 256)
        self.assert_fault(TooMany, {"count": 257}, Watcher, house, state)
        for house in (chain(16, 10), House(16, 10)):
            self.assert_fault(TooMany, {"count": 10 ** 16}, Watcher, house, bright_state(house))
            self.assertEqual(Watcher(house, dark_state(house))(("some",)), 1)

    def test_values_that_are_no_states(self):
        for value in no_states(chain(9, 2)):
            self.assert_fault(InvalidState, {"state": value}, Watcher, chain(9, 2), value)

    def test_values_that_are_no_lines(self):
        house = chain(3, 2)
        for line in no_lines(house):
            watcher = Watcher(house, (1, 0, 1))
            self.check_refused(watcher, line)
            watcher(("some",))
            self.check_refused(watcher, line)
            watcher(("glimpse", (1, 1, 1)))
            self.assertEqual((watcher.possible, watcher.failed_at), ([], 1))
            self.check_refused(watcher, line)
            self.assert_fault(NoHistory, {"index": 1}, watcher.history)

    def check_refused(self, watcher, line):
        """The watcher refuses the line, does not change, and does not count it."""
        before = watcher.possible, watcher.failed_at, [watcher.sure(lamp) for lamp in range(3)]
        history = watcher.history() if watcher.possible else None
        with self.assertRaises(InvalidLine) as caught:
            watcher(line)
        self.assertIs(type(caught.exception), InvalidLine)
        self.assertEqual(list(vars(caught.exception)), ["entry"])
        self.assertIs(caught.exception.entry, line)
        self.assertEqual((watcher.possible, watcher.failed_at, [watcher.sure(lamp) for lamp in range(3)]), before)
        if history is not None:
            self.assertEqual(watcher.history(), history)

    def test_refused_lines_are_not_counted(self):
        house = chain(3, 2)
        watcher = Watcher(house, (0, 0, 1))
        for line in no_lines(house):
            self.check_refused(watcher, line)
        watcher(("moves", 2))
        self.assertEqual(watcher.failed_at, 0)

    def test_values_that_are_no_lamps(self):
        house = chain(3, 2)
        watcher = Watcher(house, (1, 0, 1))
        for value in no_lamps(house):
            self.assert_fault(InvalidLamp, {"lamp": value}, watcher.sure, value)
        watcher(("glimpse", (0, 0, 0)))
        for value in no_lamps(house):
            self.assert_fault(InvalidLamp, {"lamp": value}, watcher.sure, value)


class ForkTest(FaultTest):
    """Points 3 and 74: forks and new lists."""

    def seen(self, watcher):
        history = watcher.history() if watcher.possible else None
        return watcher.possible, watcher.failed_at, [watcher.sure(lamp) for lamp in range(3)], history

    def test_a_fork_has_the_same_lines_and_states(self):
        watcher = Watcher(chain(3, 2), (1, 0, 1))
        for line in (("some",), ("move", 2), ("glimpse", (None, 1, None)), ("moves", 50), ("some",)):
            self.assertEqual(self.seen(watcher.fork()), self.seen(watcher))
            watcher(line)
        self.assertEqual(self.seen(watcher.fork()), self.seen(watcher))
        self.assertEqual(watcher.failed_at, 3)
        self.assert_fault(NoHistory, {"index": 3}, watcher.fork().history)
        self.assertIsInstance(watcher.fork(), Watcher)

    def test_a_fork_is_independent(self):
        watcher = Watcher(chain(3, 2), (1, 0, 1))
        watcher(("some",))
        before = self.seen(watcher)
        fork = watcher.fork()
        fork(("move", 2))
        fork(("glimpse", (1, 1, 1)))
        self.assertEqual(self.seen(watcher), before)
        other = watcher.fork()
        watcher(("move", 0))
        self.assertEqual(self.seen(other), before)
        self.assertEqual(fork.failed_at, 2)
        self.assertEqual(fork.fork()(("some",)), 0)

    def test_lists_are_new(self):
        watcher = Watcher(chain(3, 2), (1, 0, 1))
        watcher(("some",))
        before = self.seen(watcher)
        watcher.possible.clear()
        watcher.history().clear()
        fork = watcher.fork()
        fork.possible.clear()
        self.assertEqual((self.seen(watcher), self.seen(fork)), (before, before))
