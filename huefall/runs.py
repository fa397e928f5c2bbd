"""Runs: lists of lamps, the moves in their order."""

from huefall.errors import RefusedMove
from huefall.house import check_run
from huefall.moves import moved
from huefall.states import check_state


def play(house, state, run, *, careful=False):
    """The state after the run."""
    last = state
    for current in each_state(house, state, run, careful=careful):
        last = current
    return last


def states_along(house, state, run, *, careful=False):
    """The list of the state and of the states after each move."""
    return list(each_state(house, state, run, careful=careful))


def each_state(house, state, run, *, careful=False):
    """Yield the state and the states after each move. Every error is raised during the iteration."""
    check_state(house, state)
    check_run(house, run)
    # The caller may change the list between two states.
    moves = list(run)
    current = state
    yield current
    for step, lamp in enumerate(moves):
        current = moved(house, current, lamp, step, careful)
        yield current


def first_refused(house, state, run, *, careful=False):
    """The index of the first refused move, or None."""
    try:
        play(house, state, run, careful=careful)
    except RefusedMove as refused:
        return refused.step
    return None


def counts_of(house, run):
    """The list of the numbers of moves at each lamp."""
    check_run(house, run)
    counts = [0] * house.count
    for lamp in run:
        counts[lamp] += 1
    return counts
