import random

from huefall.building import careful_run
from huefall.desk import Desk
from huefall.errors import (
    DarkLamp,
    InvalidLamp,
    InvalidMode,
    InvalidState,
    LitBeneath,
    NoGoal,
    NothingToRedo,
    NothingToUndo,
    NotReachable,
)
from huefall.house import House
from huefall.lengths import greatest_tally, least_run, worth
from huefall.reach import obstacle
from huefall.shapes import chain, floors, hillside
from huefall.states import bright_state, dark_state, state_of
from tests.helpers import (
    FaultTest,
    Unequal,
    all_states,
    great_houses,
    lamps_below,
    moves_from,
    no_lamps,
    no_states,
    reachable_pairs,
    searched,
    small_houses,
)

SMALL = small_houses()
MODES = ["free", "careful"]
NO_MODES = [None, True, False, 0, 1, "", "Free", "free ", " careful", "carefull", b"free", ["free"], ("careful",), {}]


class Refused(Exception):
    """What the model raises: the class of the error and its attributes."""


class Model:
    """A desk as points 79 to 82 tell it, with moves made by hand."""

    def __init__(self, house, state, mode="free"):
        self.house, self.first, self.mode = house, state, mode
        self.made, self.undone, self.goal = [], [], None

    def states(self):
        found = [self.first]
        for lamp in self.made:
            found.append(dict(moves_from(self.house, found[-1], False))[lamp])
        return found

    def tried(self, state, lamp, step):
        if not state[lamp]:
            raise Refused(DarkLamp, {"lamp": lamp, "step": step})
        lit = [lower for lower in lamps_below(self.house.wires, lamp) if state[lower]]
        if lit and self.mode == "careful":
            raise Refused(LitBeneath, {"lamp": lamp, "step": step, "lower": lit[0]})
        return dict(moves_from(self.house, state, False))[lamp]

    def attempt(self, run):
        state = self.states()[-1]
        for index, lamp in enumerate(run):
            state = self.tried(state, lamp, len(self.made) + index)
        self.made = [*self.made, *run]
        self.undone = [] if run else self.undone

    def undo(self):
        if not self.made:
            raise Refused(NothingToUndo, {})
        *self.made, lamp = self.made
        self.undone = [*self.undone, lamp]
        return lamp

    def redo(self):
        if not self.undone:
            raise Refused(NothingToRedo, {})
        lamp = self.undone[-1]
        self.tried(self.states()[-1], lamp, len(self.made))
        self.made, self.undone = [*self.made, lamp], self.undone[:-1]
        return lamp

    def lost_at(self):
        reached = [self.goal in searched(self.house, state, False) for state in self.states()]
        return reached.index(False) - 1 if self.goal is not None and not reached[-1] else None

    def hint(self):
        if self.goal is None:
            raise Refused(NoGoal, {})
        state = self.states()[-1]
        if self.goal not in searched(self.house, state, False):
            raise Refused(NotReachable, {"lamp": obstacle(self.house, state, self.goal)})
        run = least_run if self.mode == "free" else careful_run
        return run(self.house, state, self.goal)[0] if state != self.goal else None


def redone(desk):
    """The moves that a twin of the desk can redo in the free mode."""
    twin, lamps = desk.twin(), []
    twin.mode = "free"
    while True:
        try:
            lamps.append(twin.redo())
        except NothingToRedo:
            return lamps


def seen(desk):
    """All that the properties and methods of a desk tell."""
    told = [desk.current, desk.current_worth, desk.steps, desk.goal, desk.mode, desk.run()]
    return [*told, desk.is_open(), desk.lost_at(), redone(desk)]


class DeskTest(FaultTest):
    """What all tests of desks share."""

    def assert_unchanged(self, desk, error, attributes, function, *args):
        """The call raises the error and leaves the desk as it was, the moves that can be redone included."""
        before = seen(desk)
        self.assert_fault(error, attributes, function, *args)
        self.assertEqual(seen(desk), before)


class MovesTest(DeskTest):
    """Point 79."""

    def test_a_new_desk(self):
        for house in [*SMALL, *great_houses()]:
            for state in (dark_state(house), bright_state(house)):
                desk = Desk(house, state)
                told = [state, worth(house, state), 0, None, "free", [], False, None, []]
                self.assertEqual(seen(desk), told)
                self.assertEqual(Desk(house, state, mode="careful").mode, "careful")

    def test_moves(self):
        desk = Desk(floors([2, 1], 3), (1, 0, 2))
        self.assertIsNone(desk.move(0))
        self.assertEqual((desk.current, desk.steps, desk.run()), ((0, 0, 1), 1, [0]))
        self.assertIsNone(desk.move(2))
        self.assertEqual((desk.current, desk.current_worth, desk.run()), ((0, 0, 0), 0, [0, 2]))

    def test_refused_moves(self):
        desk = Desk(floors([2, 1], 3), (1, 0, 2))
        self.assert_unchanged(desk, DarkLamp, {"lamp": 1, "step": 0}, desk.move, 1)
        desk.move(2)
        self.assert_unchanged(desk, DarkLamp, {"lamp": 1, "step": 1}, desk.move, 1)
        desk.mode = "careful"
        self.assert_unchanged(desk, LitBeneath, {"lamp": 0, "step": 1, "lower": 2}, desk.move, 0)
        desk.move(2)
        desk.move(0)
        self.assertEqual((desk.current, desk.run()), ((0, 0, 2), [2, 2, 0]))
        desk.undo()
        desk.undo()
        self.assert_unchanged(desk, LitBeneath, {"lamp": 0, "step": 1, "lower": 2}, desk.move, 0)

    def test_the_smallest_lit_lamp_beneath(self):
        house = House(4, 2, [(3, 2), (2, 1), (3, 0)])
        desk = Desk(house, (0, 1, 1, 1), mode="careful")
        self.assert_unchanged(desk, LitBeneath, {"lamp": 3, "step": 0, "lower": 1}, desk.move, 3)
        self.assert_unchanged(desk, DarkLamp, {"lamp": 0, "step": 0}, desk.move, 0)

    def test_attempts(self):
        desk = Desk(chain(3, 2), (1, 0, 1))
        self.assertIsNone(desk.attempt([2, 0]))
        self.assertEqual((desk.current, desk.run(), desk.steps), ((0, 1, 1), [2, 0], 2))
        self.assertIsNone(desk.attempt([1]))
        self.assertEqual((desk.current, desk.run()), ((0, 0, 0), [2, 0, 1]))

    def test_the_empty_attempt(self):
        desk = Desk(chain(3, 2), (1, 0, 1))
        desk.attempt([2, 0])
        desk.undo()
        before = seen(desk)
        self.assertIsNone(desk.attempt([]))
        self.assertEqual(seen(desk), before)
        self.assertEqual(before[-1], [0])

    def test_attempts_that_are_refused(self):
        desk = Desk(chain(3, 2), (1, 0, 1))
        desk.move(2)
        desk.move(0)
        desk.undo()
        # The last move of the run is refused, and its step counts the moves of the desk and of the run.
        self.assert_unchanged(desk, DarkLamp, {"lamp": 0, "step": 4}, desk.attempt, [0, 2, 1, 0])
        self.assert_unchanged(desk, DarkLamp, {"lamp": 1, "step": 1}, desk.attempt, [1])
        desk.mode = "careful"
        self.assert_unchanged(desk, LitBeneath, {"lamp": 1, "step": 2, "lower": 2}, desk.attempt, [0, 1, 2])
        self.assertEqual(desk.redo(), 0)

    def test_the_run_is_copied(self):
        desk, run = Desk(chain(3, 2), (1, 0, 1)), [2, 0]
        desk.attempt(run)
        run.append(1)
        desk.run().clear()
        self.assertEqual((run, desk.run(), desk.steps), ([2, 0, 1], [2, 0], 2))

    def test_order_of_the_checks(self):
        house = chain(3, 2)
        for value in no_states(house):
            self.assert_fault(InvalidState, {"state": value}, Desk, house, value)
            self.assert_fault(InvalidState, {"state": value}, Desk, house, value, mode="no mode")
        for word in NO_MODES:
            self.assert_fault(InvalidMode, {"word": word}, Desk, house, (0, 0, 0), mode=word)
        desk = Desk(house, (1, 0, 1))
        desk.attempt([2, 0])
        desk.undo()
        for value in no_lamps(house):
            self.assert_unchanged(desk, InvalidLamp, {"lamp": value}, desk.move, value)
            # The first move of the run is refused, but the check of the lamps comes before.
            for run in ([value], [1, value], [0, 0, value, "later"]):
                self.assert_unchanged(desk, InvalidLamp, {"lamp": value}, desk.attempt, run)

    def test_many_moves(self):
        house = chain(10, 2)
        desk = Desk(house, bright_state(house), mode="careful")
        run = careful_run(house, bright_state(house), dark_state(house), limit=1023)
        desk.attempt(run)
        self.assertEqual((desk.current, desk.steps, desk.run()), ((0,) * 10, 1023, run))
        self.assertEqual([desk.undo() for _ in run], run[::-1])
        self.assertEqual(desk.current, (1,) * 10)


class UndoTest(DeskTest):
    """Point 80."""

    def test_undo_and_redo(self):
        desk = Desk(chain(3, 2), (1, 0, 1))
        self.assert_unchanged(desk, NothingToUndo, {}, desk.undo)
        self.assert_unchanged(desk, NothingToRedo, {}, desk.redo)
        desk.attempt([2, 0, 1])
        self.assertEqual([desk.undo(), desk.undo(), desk.undo()], [1, 0, 2])
        self.assertEqual((desk.current, desk.steps), ((1, 0, 1), 0))
        self.assert_unchanged(desk, NothingToUndo, {}, desk.undo)
        self.assertEqual([desk.redo(), desk.redo()], [2, 0])
        self.assertEqual((desk.current, desk.run()), ((0, 1, 1), [2, 0]))
        self.assertEqual([desk.undo(), desk.redo(), desk.redo()], [0, 0, 1])
        self.assert_unchanged(desk, NothingToRedo, {}, desk.redo)

    def test_what_clears_the_moves_to_redo(self):
        def made():
            desk = Desk(chain(3, 2), (1, 0, 1))
            desk.attempt([2, 0, 1])
            desk.undo()
            desk.undo()
            self.assertEqual(redone(desk), [0, 1])
            return desk

        desk = made()
        desk.move(0)
        self.assertEqual((redone(desk), desk.run()), ([], [2, 0]))
        desk = made()
        desk.attempt([0, 2])
        self.assertEqual((redone(desk), desk.run()), ([], [2, 0, 2]))
        desk = made()
        desk.attempt([])
        desk.aim((0, 0, 0))
        desk.aim(None)
        desk.mode = "careful"
        desk.change_mode("free")
        for call in (lambda: desk.move(1), lambda: desk.attempt([0, 0]), lambda: desk.move(7)):
            with self.assertRaises((DarkLamp, InvalidLamp)):
                call()
        with self.assertRaises(InvalidMode):
            desk.mode = "none"
        with self.assertRaises(InvalidState):
            desk.aim((2, 0, 0))
        self.assertEqual(redone(desk), [0, 1])
        self.assertEqual((desk.redo(), redone(desk)), (0, [1]))
        self.assertEqual((desk.undo(), redone(desk)), (0, [0, 1]))
        self.assertEqual((desk.undo(), redone(desk)), (2, [2, 0, 1]))

    def test_a_refused_redo(self):
        desk = Desk(chain(3, 2), (1, 0, 1))
        desk.attempt([0, 1])
        desk.undo()
        desk.undo()
        desk.mode = "careful"
        self.assert_unchanged(desk, LitBeneath, {"lamp": 0, "step": 0, "lower": 2}, desk.redo)
        desk.mode = "free"
        self.assertEqual((desk.redo(), desk.run()), (0, [0]))
        desk.mode = "careful"
        self.assertEqual(desk.undo(), 0)
        self.assertEqual(redone(desk), [0, 1])
        desk = Desk(House(3, 2, [(1, 0), (1, 2)]), (1, 1, 1))
        desk.attempt([0, 1])
        desk.undo()
        desk.change_mode("careful")
        self.assert_unchanged(desk, LitBeneath, {"lamp": 1, "step": 1, "lower": 2}, desk.redo)

    def test_random_use_agrees_with_the_model(self):
        draw = random.Random(11)
        for house in SMALL:
            for _ in range(12):
                state = state_of(house, draw.randrange(house.hues ** house.count))
                self.check_use(house, state, draw)

    def check_use(self, house, state, draw):
        mode = draw.choice(MODES)
        desk, model = Desk(house, state, mode=mode), Model(house, state, mode)
        for _ in range(25):
            word = draw.choice(["attempt", "attempt", "move", "undo", "undo", "redo", "redo", "mode", "aim", "hint"])
            if word in ("attempt", "move"):
                run = [draw.randrange(house.count) for _ in range(draw.randrange(4) if word == "attempt" else 1)]
                call = (lambda: desk.attempt(run)) if word == "attempt" else (lambda: desk.move(run[0]))
                self.check_same(desk, call, lambda: model.attempt(run))
            elif word == "mode":
                desk.mode = model.mode = draw.choice(MODES)
            elif word == "aim":
                model.goal = draw.choice([None, *all_states(house)])
                self.assertIsNone(desk.aim(model.goal))
            else:
                self.check_same(desk, getattr(desk, word), getattr(model, word))
            states = model.states()
            told = [states[-1], worth(house, states[-1]), len(model.made), model.goal, model.mode, model.made]
            is_open = model.goal is not None and model.goal in searched(house, states[-1], False)
            self.assertEqual(seen(desk), [*told, is_open, model.lost_at(), model.undone[::-1]])

    def check_same(self, desk, call, model_call):
        try:
            expected = model_call()
        except Refused as refused:
            self.assert_unchanged(desk, *refused.args, call)
        else:
            self.assertEqual(call(), expected)


class ModesTest(DeskTest):
    """Point 81."""

    def test_change_of_the_mode(self):
        desk = Desk(chain(2, 2), (1, 1))
        self.assertIsNone(desk.change_mode("careful"))
        self.assertEqual(desk.mode, "careful")
        desk.mode = "free"
        self.assertEqual(desk.mode, "free")
        desk.mode = "careful"
        desk.mode = "careful"
        self.assertEqual(desk.mode, "careful")

    def test_words_that_are_no_modes(self):
        for mode in MODES:
            desk = Desk(chain(2, 2), (1, 1), mode=mode)
            desk.move(1)
            desk.undo()
            for word in NO_MODES:
                self.assert_unchanged(desk, InvalidMode, {"word": word}, desk.change_mode, word)
                self.assert_unchanged(desk, InvalidMode, {"word": word}, lambda: setattr(desk, "mode", word))
                self.assertEqual(desk.mode, mode)
            with self.assertRaises(InvalidMode):
                desk.mode = Unequal()

    def test_properties_cannot_be_assigned_but_the_mode(self):
        desk = Desk(chain(2, 2), (1, 1))
        for name in ("current", "current_worth", "steps", "goal"):
            with self.assertRaises(AttributeError):
                setattr(desk, name, 0)

    def test_twins(self):
        desk = Desk(chain(3, 2), (1, 0, 1), mode="careful")
        desk.attempt([2, 0, 2])
        desk.undo()
        desk.aim((0, 0, 1))
        twin = desk.twin()
        self.assertIsInstance(twin, Desk)
        self.assertEqual((seen(twin), seen(twin.twin())), (seen(desk), seen(desk)))
        before = seen(desk)
        self.assertEqual(redone(desk), [2])
        twin.redo()
        twin.mode = "free"
        twin.move(1)
        twin.aim(None)
        self.assertEqual(seen(desk), before)
        twin = desk.twin()
        desk.undo()
        desk.move(0)
        desk.aim((0, 0, 0))
        desk.mode = "free"
        self.assertEqual(seen(twin), before)
        self.assertEqual([twin.redo(), twin.undo(), twin.undo(), twin.undo()], [2, 2, 0, 2])
        self.assertEqual(twin.current, (1, 0, 1))

    def test_the_first_state_of_a_twin(self):
        desk = Desk(chain(2, 2), (1, 1))
        desk.move(0)
        twin = desk.twin()
        twin.aim((1, 0))
        self.assertEqual(twin.lost_at(), 0)
        self.assertEqual(twin.twin().lost_at(), 0)
        twin.undo()
        self.assertEqual((twin.lost_at(), twin.is_open()), (None, True))


class GoalsTest(DeskTest):
    """Point 82."""

    def test_goals(self):
        desk = Desk(chain(2, 3), (1, 1))
        self.assertEqual((desk.goal, desk.is_open(), desk.lost_at()), (None, False, None))
        self.assertIsNone(desk.aim((0, 2)))
        self.assertEqual((desk.goal, desk.is_open(), desk.lost_at()), ((0, 2), True, None))
        self.assertIsNone(desk.aim(None))
        self.assertEqual((desk.goal, desk.is_open(), desk.lost_at()), (None, False, None))

    def test_a_goal_lost_before_the_first_move(self):
        desk = Desk(chain(2, 3), (1, 1))
        desk.aim((2, 0))
        self.assertEqual((desk.is_open(), desk.lost_at()), (False, -1))
        desk.move(1)
        self.assertEqual((desk.is_open(), desk.lost_at()), (False, -1))

    def test_a_goal_lost_at_a_move_and_never(self):
        desk = Desk(chain(2, 3), (1, 1))
        desk.aim((1, 0))
        self.assertEqual((desk.is_open(), desk.lost_at()), (True, None))
        desk.attempt([1, 0, 1])
        self.assertEqual((desk.is_open(), desk.lost_at()), (False, 1))
        desk.aim((0, 0))
        self.assertEqual((desk.is_open(), desk.lost_at()), (True, None))
        # The present goal counts, also for moves made before it was set.
        desk.aim((1, 1))
        self.assertEqual(desk.lost_at(), 0)
        desk.undo()
        desk.undo()
        self.assertEqual(desk.lost_at(), 0)
        desk.undo()
        self.assertEqual((desk.lost_at(), desk.is_open()), (None, True))

    def test_hints(self):
        desk = Desk(chain(3, 3), (1, 0, 1))
        self.assert_unchanged(desk, NoGoal, {}, desk.hint)
        desk.aim((0, 2, 0))
        self.assertEqual(desk.hint(), 0)
        desk.mode = "careful"
        self.assertEqual(desk.hint(), 2)
        desk.aim((1, 0, 1))
        self.assertIsNone(desk.hint())
        desk.mode = "free"
        self.assertIsNone(desk.hint())
        desk.aim((1, 1, 0))
        self.assert_unchanged(desk, NotReachable, {"lamp": 1}, desk.hint)
        desk.aim(None)
        self.assert_unchanged(desk, NoGoal, {}, desk.hint)

    def test_following_the_hints(self):
        for house in SMALL:
            for source, target in reachable_pairs(house):
                for mode, run in (("free", least_run), ("careful", careful_run)):
                    desk = Desk(house, source, mode=mode)
                    desk.aim(target)
                    expected = run(house, source, target)
                    self.assertEqual(desk.hint(), expected[0] if expected else None)
                    while desk.hint() is not None:
                        desk.move(desk.hint())
                    self.assertEqual((desk.current, desk.steps), (target, len(expected)))

    def test_hints_have_no_limit(self):
        for house in great_houses():
            bright, dark = bright_state(house), dark_state(house)
            desk = Desk(house, bright, mode="careful")
            desk.aim(dark)
            self.assertEqual(desk.hint(), min(house.bottoms()))
            if house.wires:
                self.assertGreater(greatest_tally(house, bright, dark).total, 1000)
            desk.mode = "free"
            self.assertEqual(desk.hint(), least_run(house, bright, dark)[0])
            while desk.hint() is not None:
                desk.move(desk.hint())
            self.assertEqual((desk.current, desk.steps), (dark, len(least_run(house, bright, dark))))

    def test_values_that_are_no_goals(self):
        house = hillside(2, 2, 3)
        desk = Desk(house, (1, 0, 2, 1))
        desk.attempt([0, 1])
        desk.undo()
        desk.aim((0, 0, 1, 0))
        for value in no_states(house):
            if value is not None:
                self.assert_unchanged(desk, InvalidState, {"state": value}, desk.aim, value)
        self.assertEqual(desk.goal, (0, 0, 1, 0))
