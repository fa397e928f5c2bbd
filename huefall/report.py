"""Run tables: a line of text for the state at the beginning and for the state after each move."""

from huefall.formulas import worth_under
from huefall.lengths import weights
from huefall.notation import state_text
from huefall.runs import states_along

NO_LAMP = "-"


def run_table(house, state, run, *, careful=False):
    """The lines of the table of the run."""
    states = states_along(house, state, run, careful=careful)
    lamps = [NO_LAMP, *run]
    lamp_weights = weights(house)
    lines = []
    for step, current in enumerate(states):
        total = worth_under(lamp_weights, current)
        lines.append(f"{step:>5} {lamps[step]:>4} {state_text(house, current):<16} {total:>24,}")
    return lines
