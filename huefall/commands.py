"""Commands: lines of text that work on a desk, and the answers to them."""

from huefall.errors import (
    DarkLamp,
    InvalidMode,
    InvalidText,
    LitBeneath,
    NoGoal,
    NothingToRedo,
    NothingToUndo,
    NotReachable,
)
from huefall.house import is_lamp
from huefall.notation import read_number, read_run, read_state, state_text
from huefall.reach import compare

DONE = "ok"
NOTHING = "nothing"
NONE = "none"


def undo_answer(desk):
    """Take back a move."""
    try:
        return str(desk.undo())
    except NothingToUndo:
        return NOTHING


def redo_answer(desk):
    """Make a move again that was taken back."""
    try:
        return str(desk.redo())
    except NothingToRedo:
        return NOTHING


def hint_answer(desk):
    """Tell the next move to the goal."""
    try:
        lamp = desk.hint()
    except NoGoal:
        return NONE
    except NotReachable as lost:
        return f"lost {lost.lamp}"
    return "done" if lamp is None else str(lamp)


def show_answer(desk):
    """Tell the current state and its worth."""
    return f"{state_text(desk.house, desk.current)} {desk.current_worth}"


def move_answer(desk, rest):
    """Make a move."""
    lamp = read_number(rest)
    if not is_lamp(desk.house, lamp):
        raise InvalidText(1)
    desk.move(lamp)
    return DONE


def attempt_answer(desk, rest):
    """Make all moves of a run or none."""
    desk.attempt(read_run(desk.house, rest))
    return DONE


def mode_answer(desk, rest):
    """Change the mode."""
    try:
        desk.change_mode(rest)
    except InvalidMode:
        raise InvalidText(1) from None
    return DONE


def aim_answer(desk, rest):
    """Set or remove the goal."""
    desk.aim(None if rest == NONE else read_state(desk.house, rest))
    return DONE


def check_answer(desk, rest):
    """Tell how the current state compares to another one."""
    return compare(desk.house, desk.current, read_state(desk.house, rest))


ALONE = {"undo": undo_answer, "redo": redo_answer, "hint": hint_answer, "show": show_answer}
WITH_REST = {
    "move": move_answer,
    "attempt": attempt_answer,
    "mode": mode_answer,
    "aim": aim_answer,
    "check": check_answer,
}


def perform(desk, text):
    """Do what the line of text says, and return the answer."""
    try:
        return answer_to(desk, text)
    except DarkLamp as dark:
        return f"dark {dark.lamp} at {dark.step}"
    except LitBeneath as lit:
        return f"lit {lit.lower} beneath {lit.lamp} at {lit.step}"


def answer_to(desk, text):
    """The answer to the line of text, if no move is refused."""
    if text in ALONE:
        action = ALONE[text]
        return action(desk)
    word, _, rest = text.partition(" ")
    if word not in WITH_REST:
        raise InvalidText(1)
    action_with_rest = WITH_REST[word]
    return action_with_rest(desk, rest)
