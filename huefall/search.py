"""Plain search: the same answers by single moves and the numbers of states alone."""

from huefall.errors import TooMany
from huefall.listing import MOST_STATES
from huefall.moves import after, allowed_lamps
from huefall.states import check_state, number_of, state_count, state_of
from huefall.watcher import MOST_WATCHED


def plain_reachable(house, source, *, careful=False, limit=MOST_STATES):
    """All states that runs lead to from the source, in descending order of number."""
    check_state(house, source)
    check_state_count(house, limit)
    return sorted(list(moves_from(house, source, careful)), key=lambda state: number_of(house, state), reverse=True)


def plain_lengths(house, source, target, *, careful=False, limit=MOST_WATCHED):
    """The different lengths of all runs from the source to the target, ascending."""
    check_state(house, source)
    check_state(house, target)
    check_state_count(house, limit)
    moves = moves_from(house, source, careful)
    lengths = []
    length = 0
    states = {source: True}
    while states:
        if target in states:
            lengths.append(length)
        states = {other: True for state in states for other in moves[state]}
        length += 1
    return lengths


def plain_meet(house, first, second, *, limit=MOST_WATCHED):
    """The meet of two states, found among all states."""
    check_two_states(house, first, second, limit)
    below_second = moves_from(house, second, False)
    below_both = [state for state in moves_from(house, first, False) if state in below_second]
    # They are all reachable from the meet, and a move lowers the number.
    return max(below_both, key=lambda state: number_of(house, state))


def plain_join(house, first, second, *, limit=MOST_WATCHED):
    """The join of two states, found among all states."""
    check_two_states(house, first, second, limit)
    above_second = states_above(house, second)
    above_both = [state for state in states_above(house, first) if state in above_second]
    # The join is reachable from them all, and a move lowers the number.
    return min(above_both, key=lambda state: number_of(house, state))


def check_state_count(house, limit):
    """Raise TooMany if the house has more states than the limit allows."""
    count = state_count(house)
    if count > limit:
        raise TooMany(count)


def check_two_states(house, first, second, limit):
    """Raise an error if one of the two is not a state, or if the house has too many states."""
    check_state(house, first)
    check_state(house, second)
    check_state_count(house, limit)


def moves_from(house, source, careful):
    """For each state that runs lead to from the source, the list of the states after one more move."""
    moves = {}
    waiting = [source]
    while waiting:
        state = waiting.pop()
        if state not in moves:
            moves[state] = states_after(house, state, careful)
            waiting.extend(moves[state])
    return moves


def states_above(house, target):
    """The states from which runs lead to the target, each with True."""
    found = {target: True}
    # A move lowers the number, so the states after a move from here are decided before.
    for number in range(number_of(house, target) + 1, state_count(house)):
        state = state_of(house, number)
        if any([other in found for other in states_after(house, state, False)]):
            found[state] = True
    return found


def states_after(house, state, careful):
    """The states after each allowed move."""
    return [after(house, state, lamp, careful=careful) for lamp in allowed_lamps(house, state, careful=careful)]
