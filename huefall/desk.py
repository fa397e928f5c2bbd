"""Desks: a house, a state and the moves made, which can be taken back and made again."""

from huefall.building import next_careful
from huefall.errors import InvalidMode, NoGoal, NothingToRedo, NothingToUndo
from huefall.formulas import worth_under
from huefall.house import check_run
from huefall.lengths import least_run, weights
from huefall.moves import moved
from huefall.reach import reaches
from huefall.states import check_state

FREE = "free"
CAREFUL = "careful"


class Desk:
    """Keeps a house, the states before and after each move made, and the moves that can be made again."""

    def __init__(self, house, state, *, mode=FREE):
        check_state(house, state)
        check_mode(mode)
        self.house = house
        self._mode = mode
        self._goal = None
        self._states = [state]
        self._made = []
        self._undone = []
        self._weights = weights(house)

    @property
    def current(self):
        """The state after the moves made."""
        return self._states[-1]

    @property
    def current_worth(self):
        """The worth of the current state."""
        return worth_under(self._weights, self._states[-1])

    @property
    def steps(self):
        """The number of moves made."""
        return len(self._made)

    @property
    def goal(self):
        """The state that is aimed at, or None."""
        return self._goal

    @property
    def mode(self):
        """The mode: "free" or "careful"."""
        return self._mode

    @mode.setter
    def mode(self, word):
        check_mode(word)
        self._mode = word

    def change_mode(self, word):
        """Change the mode."""
        check_mode(word)
        self._mode = word

    def move(self, lamp):
        """Make a move in the present mode."""
        self.attempt([lamp])

    def attempt(self, run):
        """Make all moves of the run or none."""
        check_run(self.house, run)
        self._make(run)
        if run:
            self._undone.clear()

    def undo(self):
        """Take back the last move and return its lamp."""
        if not self._made:
            raise NothingToUndo()
        lamp = self._made.pop()
        self._states.pop()
        self._undone.append(lamp)
        return lamp

    def redo(self):
        """Make the move again that was taken back last and return its lamp."""
        if not self._undone:
            raise NothingToRedo()
        self._make(self._undone[-1:])
        return self._undone.pop()

    def run(self):
        """The list of the moves made."""
        return list(self._made)

    def twin(self):
        """An independent desk with the same moves, moves to redo, mode and goal."""
        other = Desk(self.house, self._states[0], mode=self._mode)
        other._goal = self._goal
        other._states = list(self._states)
        other._made = list(self._made)
        other._undone = list(self._undone)
        return other

    def aim(self, target):
        """Set the goal, or remove it if the target is None."""
        if target is not None:
            check_state(self.house, target)
        self._goal = target

    def is_open(self):
        """True if there is a goal that is reachable from the current state."""
        return self._goal is not None and reaches(self.house, self.current, self._goal)

    def lost_at(self):
        """The index of the move that lost the goal, -1 if it was lost before, or None if it is not lost."""
        if self._goal is None:
            return None
        # A goal that is not reachable any more does not become reachable again.
        for index, state in enumerate(self._states):
            if not reaches(self.house, state, self._goal):
                return index - 1
        return None

    def hint(self):
        """The lamp of the first move of the run to the goal, or None at the goal."""
        if self._goal is None:
            raise NoGoal()
        if self._mode == CAREFUL:
            return next_careful(self.house, self.current, self._goal)
        if self.current == self._goal:
            return None
        return least_run(self.house, self.current, self._goal)[0]

    def _make(self, run):
        """Make all moves of the run or none, and leave the moves that can be made again."""
        careful = self._mode == CAREFUL
        states = []
        current = self._states[-1]
        for index, lamp in enumerate(run):
            current = moved(self.house, current, lamp, len(self._made) + index, careful)
            states.append(current)
        self._made.extend(list(run))
        self._states.extend(states)


def check_mode(word):
    """Raise InvalidMode if the value is not a mode."""
    if not isinstance(word, str) or word not in (FREE, CAREFUL):
        raise InvalidMode(word)
