import random

from huefall.commands import perform
from huefall.desk import Desk
from huefall.errors import HuefallError, InvalidText
from huefall.house import House
from huefall.lengths import worth
from huefall.notation import run_text, state_text
from huefall.reach import compare
from huefall.shapes import chain, floors, hillside
from huefall.states import bright_state, state_of
from tests.helpers import FaultTest, all_states, small_houses
from tests.test_desk import Model, Refused, seen

ALONE = ["undo", "redo", "hint", "show"]
WITH_REST = ["move", "attempt", "mode", "aim", "check"]
LONG = 5000


def no_commands():
    """Strings that are no commands for a desk of three lamps and two hues."""
    texts = ["", " ", "  ", "-", "0", "none", "free", "quit", "Move 0", "MOVE 0", *WITH_REST]
    texts += [word + end for word in ALONE for end in (" ", "  ", " 0", " -", "\n", "\t", "x")]
    texts += [" " + word for word in ALONE]
    texts += [word + end for word in WITH_REST for end in (" ", "  ", " x", "\n", " \n")]
    rests = ["0", "000", "free", "none", "-"]
    for word, right in zip(WITH_REST, ["0", "0 1", "careful", "000", "000"]):
        texts += [f"{word}  {right}", f"{word} {right} ", f" {word} {right}", f"{word} {right}\n", f"{word}\t{right}"]
        texts += [f"{word}{right}", f"{word} {right}\u0660", f"{word} {right} {right} 9", f"{word} {'0' * LONG}"]
        texts += [f"{word} {'1' * LONG}", f"{word} 0 {'1' * LONG}", f"{word} {right},0", f"{word} +{right}"]
    texts += [f"move {rest}" for rest in [*rests[1:], "00", "01", "3", "9", "16", "-1", "1.0", "0 1", "0 0", "\u0661"]]
    texts += [f"attempt {rest}" for rest in ["--", "- ", "- 0", "0 -", "0  1", "0 1 ", "00", "0 01", "0 3", "free"]]
    texts += [f"mode {rest}" for rest in [*rests[:2], "none", "-", "Free", "free careful", "careful free", "FREE"]]
    texts += [f"aim {rest}" for rest in ["0", "00", "0000", "002", "0 0 0", "None", "none none", "-", "\u0660" * 3]]
    texts += [f"check {rest}" for rest in ["0", "00", "0000", "003", "0 0 0", "none", "-", "a00", "\u0661" * 3]]
    texts += ["x" * LONG, "1" * LONG, " " * LONG, "move" + " " * LONG + "0"]
    return texts


class PerformTest(FaultTest):
    """Point 83."""

    def check_answers(self, desk, script):
        """The script has commands and their answers, one behind the other."""
        for row in script.split(", "):
            text, answer = row.split(" -> ")
            self.assertEqual(perform(desk, text), answer, row)

    def test_example(self):
        self.assertEqual(perform(Desk(chain(2, 2), (1, 0)), "move 1"), "dark 1 at 0")

    def test_move_attempt_undo_and_redo(self):
        desk = Desk(floors([2, 1], 3), (1, 0, 2))
        self.check_answers(
            desk,
            "undo -> nothing, redo -> nothing, move 0 -> ok, show -> 001 1, move 2 -> ok, undo -> 2, "
            "undo -> 0, undo -> nothing, show -> 102 5, redo -> 0, redo -> 2, redo -> nothing, "
            "show -> 000 0, undo -> 2, attempt - -> ok, redo -> 2, undo -> 2, undo -> 0, "
            "attempt 2 2 0 -> ok, redo -> nothing, show -> 002 2",
        )
        self.assertEqual(desk.run(), [2, 2, 0])

    def test_refused_moves(self):
        desk = Desk(floors([2, 1], 3), (1, 0, 2))
        self.check_answers(
            desk,
            "move 1 -> dark 1 at 0, attempt 2 0 1 -> dark 1 at 2, show -> 102 5, move 2 -> ok, "
            "move 1 -> dark 1 at 1, attempt 0 1 -> dark 1 at 2, undo -> 2, attempt 0 2 -> ok, "
            "undo -> 2, undo -> 0, mode careful -> ok, redo -> lit 2 beneath 0 at 0, "
            "move 0 -> lit 2 beneath 0 at 0, attempt 2 0 -> lit 2 beneath 0 at 1, "
            "move 1 -> dark 1 at 0, mode free -> ok, redo -> 0, redo -> 2, show -> 000 0",
        )

    def test_modes_and_hints(self):
        desk = Desk(chain(3, 3), (1, 0, 1))
        self.check_answers(
            desk,
            "hint -> none, aim 020 -> ok, hint -> 0, mode careful -> ok, hint -> 2, aim 101 -> ok, "
            "hint -> done, mode free -> ok, hint -> done, aim 110 -> ok, hint -> lost 1, "
            "aim 200 -> ok, hint -> lost 0, aim none -> ok, hint -> none",
        )
        self.assertEqual((desk.goal, desk.mode), (None, "free"))

    def test_check(self):
        desk = Desk(chain(2, 3), (1, 1))
        self.check_answers(desk, "check 11 -> same, check 10 -> down, check 02 -> down, check 12 -> up")
        desk = Desk(House(2, 3), (1, 1))
        self.check_answers(desk, "check 20 -> apart, check 02 -> apart, check 22 -> up, check 00 -> down")

    def test_show(self):
        house = chain(16, 10)
        desk = Desk(house, (9,) * 16)
        self.assertEqual(perform(desk, "show"), "9" * 16 + " " + "9" * 16)
        self.assertEqual(perform(desk, "move 15"), "ok")
        self.assertEqual(perform(desk, "show"), "9" * 15 + "8 " + "9" * 15 + "8")
        self.assertEqual(perform(desk, "move 0"), "ok")
        self.assertEqual(perform(desk, "undo"), "0")
        house = hillside(4, 4, 10)
        state = bright_state(house)
        self.assertEqual(perform(Desk(house, state), "show"), f"{'9' * 16} {worth(house, state)}")

    def test_lamps_of_two_digits(self):
        desk = Desk(House(16, 2), (1,) * 16)
        self.check_answers(desk, "move 10 -> ok, attempt 15 0 9 -> ok, undo -> 9, move 15 -> dark 15 at 3")
        self.assertEqual(desk.run(), [10, 15, 0])

    def test_strings_that_are_no_commands(self):
        for mode in ("free", "careful"):
            desk = Desk(chain(3, 2), (1, 1, 1), mode=mode)
            desk.attempt([2, 1])
            desk.undo()
            desk.aim((0, 0, 0))
            before = seen(desk)
            for text in no_commands():
                self.assert_fault(InvalidText, {"line": 1}, perform, desk, text)
                self.assertEqual(seen(desk), before, text)

    def test_desks_agree_with_the_model(self):
        draw = random.Random(3)
        for house in small_houses():
            for _ in range(8):
                state = state_of(house, draw.randrange(house.hues ** house.count))
                desk, model = Desk(house, state), Model(house, state)
                for _ in range(30):
                    text, answer = self.drawn(house, model, draw)
                    self.assertEqual(perform(desk, text), answer, text)

    def drawn(self, house, model, draw):
        """A command and the answer of the model, which does what it says."""
        word = draw.choice([*ALONE, *WITH_REST])
        state = draw.choice(all_states(house))
        if word in ("move", "attempt"):
            run = [draw.randrange(house.count) for _ in range(draw.randrange(4) if word == "attempt" else 1)]
            return f"{word} {run_text(house, run)}", self.tried(lambda: model.attempt(run))
        if word in ("undo", "redo", "hint"):
            return word, self.tried(getattr(model, word), "done")
        if word == "mode":
            model.mode = draw.choice(["free", "careful"])
            return f"mode {model.mode}", "ok"
        if word == "aim":
            model.goal = draw.choice([None, state])
            return "aim none" if model.goal is None else f"aim {state_text(house, state)}", "ok"
        current = model.states()[-1]
        if word == "show":
            return word, f"{state_text(house, current)} {worth(house, current)}"
        return f"check {state_text(house, state)}", compare(house, current, state)

    def tried(self, call, nothing="ok"):
        """The answer to a call of the model."""
        try:
            value = call()
        except Refused as refused:
            error, told = refused.args
            return {
                "DarkLamp": "dark {lamp} at {step}",
                "LitBeneath": "lit {lower} beneath {lamp} at {step}",
                "NothingToUndo": "nothing",
                "NothingToRedo": "nothing",
                "NoGoal": "none",
                "NotReachable": "lost {lamp}",
            }[error.__name__].format(**told)
        return nothing if value is None else str(value)

    def test_every_string_answers_or_is_refused(self):
        draw = random.Random(9)
        letters = ["move", "attempt", "undo", "aim", "none", "mode", "free", "0", "1", "2", "-", " ", " "]
        desk = Desk(chain(3, 2), (1, 1, 1))
        for _ in range(3000):
            text = "".join(draw.choice(letters) for _ in range(draw.randrange(6)))
            try:
                self.assertIsInstance(perform(desk, text), str)
            except HuefallError as error:
                self.assertEqual((type(error), vars(error)), (InvalidText, {"line": 1}))
