"""Watchers: which states are possible after the lines of a story."""

from huefall.errors import InvalidLine, NoHistory
from huefall.glimpse import is_glimpse, is_match
from huefall.house import check_lamp, is_lamp
from huefall.lengths import is_length
from huefall.listing import each_below
from huefall.moves import after
from huefall.reach import reaches
from huefall.states import lit_lamps
from huefall.whole import is_whole

MOST_WATCHED = 256

MOVE = "move"
SOME = "some"
MOVES = "moves"
GLIMPSE = "glimpse"


class Watcher:
    """Follows a story line by line. It keeps the possible states before the first line and after each line."""

    def __init__(self, house, state):
        self._house = house
        self._moves = moves_below(house, state)
        self._lines = []
        self._stages = [[state]]
        self._failed_at = None

    def __call__(self, line):
        """Follow one more line and return the number of states that are possible after it."""
        check_line(self._house, line)
        states = states_after_line(self._moves, self._stages[-1], line)
        if not states and self._failed_at is None:
            self._failed_at = len(self._lines)
        self._lines.append(line)
        self._stages.append(states)
        return len(states)

    @property
    def possible(self):
        """The possible states, in descending order of number."""
        return list(self._stages[-1])

    @property
    def failed_at(self):
        """The index of the first line after which no state was possible, or None."""
        return self._failed_at

    def sure(self, lamp):
        """The hue that the lamp has in all possible states, or None."""
        check_lamp(self._house, lamp)
        hues = sorted(set([state[lamp] for state in self._stages[-1]]))
        return hues[0] if len(hues) == 1 else None

    def history(self):
        """A state before the first line and after each line, so that each line is true."""
        if self._failed_at is not None:
            raise NoHistory(self._failed_at)
        found = [self._stages[-1][0]]
        for index in reversed(range(len(self._lines))):
            found.append(state_before_line(self._house, self._stages[index], self._lines[index], found[-1]))
        return list(reversed(found))

    def fork(self):
        """An independent watcher that has followed the same lines."""
        other = Watcher(self._house, self._stages[0][0])
        other._lines = list(self._lines)
        other._stages = list(self._stages)
        other._failed_at = self._failed_at
        return other


def moves_below(house, state):
    """For each state that is reachable from the state, the states after the moves at its lit lamps.

    The states come in descending order of number, so each one comes before all that follow it.
    """
    return {
        other: {lamp: after(house, other, lamp) for lamp in lit_lamps(house, other)}
        for other in each_below(house, state, limit=MOST_WATCHED)
    }


def is_line(house, value):
    """True if the value is a line of a story. Takes any value."""
    if not isinstance(value, tuple) or len(value) not in (1, 2) or not isinstance(value[0], str):
        return False
    word = value[0]
    if len(value) == 1:
        return word == SOME
    told = value[1]
    if word == MOVES:
        return is_whole(told) and told >= 0
    return (word == MOVE and is_lamp(house, told)) or (word == GLIMPSE and is_glimpse(house, told))


def check_line(house, line):
    """Raise InvalidLine if the value is not a line of a story."""
    if not is_line(house, line):
        raise InvalidLine(line)


def states_after_line(moves, states, line):
    """The states that are possible after the line if these were possible before it, in the order of `moves`."""
    word = line[0]
    if word == SOME:
        return states_after_some(moves, states)
    told = line[1]
    if word == MOVE:
        return in_order(moves, [moves[state][told] for state in states if told in moves[state]])
    if word == MOVES:
        return states_after_moves(moves, states, told)
    return [state for state in states if is_match(told, state)]


def states_after_some(moves, states):
    """The states after any number of moves from one of these."""
    found = set(states)
    for state in moves:
        if state in found:
            for other in moves[state].values():
                found.add(other)
    return [state for state in moves if state in found]


def states_after_moves(moves, states, count):
    """The states after this number of moves from one of these."""
    current = states
    left = count
    # No run goes on for ever, so this ends early however great the count is.
    while current and left > 0:
        current = in_order(moves, [other for state in current for other in moves[state].values()])
        left -= 1
    return current


def in_order(moves, states):
    """The different states in the order of `moves`."""
    found = set(states)
    return [state for state in moves if state in found]


def state_before_line(house, states, line, target):
    """The first of the states from which the target follows by the line."""
    for state in states:
        if follows_by(house, state, line, target):
            return state
    return None


def follows_by(house, state, line, target):
    """True if the target is possible after the line if the state is the one before it."""
    word = line[0]
    if word == SOME:
        return reaches(house, state, target)
    told = line[1]
    if word == MOVE:
        return state[told] > 0 and after(house, state, told) == target
    if word == MOVES:
        return is_length(house, state, target, told)
    return state == target
