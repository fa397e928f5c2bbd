"""Points 3 and 4 over all functions of the interface: what is checked first, and that nothing is shared."""

import importlib
import inspect
from copy import deepcopy

from huefall.closing import derivation
from huefall.desk import Desk
from huefall.errors import InvalidLamp, InvalidState
from huefall.house import House
from huefall.kin import Kin, WiredKin
from huefall.tally import Tally
from tests.helpers import FaultTest, no_lamps, no_states
from tests.test_interface import FUNCTIONS

HOUSE = House(4, 3, [(2, 0), (2, 1), (1, 3)])
BRIGHT, STATE, LOW, DARK = (2, 2, 2, 2), (1, 0, 1, 2), (0, 0, 1, 1), (0, 0, 0, 0)
LOG = [(0, STATE), (4, LOW), (5, DARK), (5, BRIGHT)]
TOLD = [("down", "a", "b"), ("mirror", "b", "c"), ("rest", "a", "c", 1)]
FACT = ("down", "a", "b")

# Arguments for each function of the interface that is no class, those behind the house only where it begins with one.
CALLS = {
    "house": {"is_lamp": (0,)},
    "shapes": {
        "chain": (3, 2),
        "stairs": ([None, 0, 0], 2),
        "hillside": (2, 2, 3),
        "floors": ([1, 2], 3),
        "side_by_side": (HOUSE, House(2, 3)),
        "stacked": (HOUSE, House(2, 3)),
    },
    "states": {
        "is_state": (STATE,),
        "dark_state": (),
        "bright_state": (),
        "mirror": (STATE,),
        "lit_lamps": (STATE,),
        "number_of": (STATE,),
        "state_of": (7,),
    },
    "notation": {
        "house_text": (),
        "state_text": (STATE,),
        "run_text": ([0, 3],),
        "read_house": ("house 2 2\n0 > 1",),
        "read_state": ("1012",),
        "read_run": ("0 3",),
    },
    "moves": {"is_allowed": (STATE, 2), "allowed_lamps": (STATE,), "after": (STATE, 2), "before": (STATE, 2)},
    "runs": {
        "play": (STATE, [2, 3]),
        "states_along": (STATE, [2, 3]),
        "first_refused": (STATE, [1, 3]),
        "counts_of": ([2, 3],),
        "each_state": (STATE, [2, 3]),
    },
    "swaps": {"is_swap": ([0, 1], [1, 0]), "sorted_form": ([1, 0],), "neighbours": ([1, 0],)},
    "reach": {
        "topmost_differences": (STATE, LOW),
        "is_reachable": (STATE, LOW),
        "obstacle": (LOW, STATE),
        "compare": (STATE, LOW),
        "witnesses": (STATE, LOW),
    },
    "statelists": {
        "sort_states": ([LOW, STATE, LOW],),
        "uppermost": ([LOW, STATE, LOW],),
        "lowermost": ([LOW, STATE, LOW],),
        "longest_chain": ([LOW, STATE, LOW],),
        "layers": ([LOW, STATE, LOW],),
    },
    "tally": {"loads": (Tally([1, 0, 1, 2]),), "fits": (STATE, LOW, Tally([1, 0, 0, 1]))},
    "lengths": {
        "least_tally": (STATE, DARK),
        "greatest_tally": (STATE, DARK),
        "weights": (),
        "worth": (STATE,),
        "length_range": (STATE, DARK),
        "is_length": (STATE, DARK, 5),
        "tally_of_length": (STATE, STATE, 0),
        "tally_with": (STATE, STATE, 0, 0),
        "least_run": (STATE, DARK),
        "longest_run": (STATE, DARK),
        "run_of_length": (STATE, STATE, 0),
    },
    "building": {
        "normal_run": (STATE, Tally([1, 0, 0, 1])),
        "careful_run": (STATE, DARK),
        "next_careful": (STATE, DARK),
    },
    "signs": {
        "way_number": (2, 3),
        "sign": (2, 3),
        "way_row": (3,),
        "sign_row": (3,),
        "least_by_signs": (STATE, LOW),
        "greatest_by_ways": (STATE, LOW),
    },
    "tallies": {"all_tallies": (STATE, DARK)},
    "certificates": {
        "certificate": (STATE, DARK),
        "careful_certificate": (STATE, DARK),
        "is_certificate": (STATE, LOW, ("run", [0, 3])),
        "joined": (STATE, LOW, DARK),
    },
    "counting": {
        "lower_count": (STATE,),
        "upper_count": (STATE,),
        "pair_count": (),
        "rank_below": (STATE, LOW),
        "state_at_rank": (STATE, 1),
    },
    "listing": {"each_below": (STATE,), "each_above": (STATE,), "between": (STATE, LOW), "level_sizes": ()},
    "moebius": {
        "lowest_lit": (STATE,),
        "lowered": (STATE, [3, 0]),
        "moebius": (STATE, LOW),
        "inclusion": (STATE,),
        "invert": (STATE, sum),
    },
    "lattice": {
        "meet": (STATE, LOW, BRIGHT),
        "join": (STATE, LOW, BRIGHT),
        "pieces": (STATE,),
        "join_all": ([STATE, LOW],),
        "meet_all": ([STATE, LOW],),
        "is_single": (STATE,),
        "single_count": (),
    },
    "covers": {"covered_by": (STATE,), "covers_of": (STATE,), "is_cover": (STATE, LOW)},
    "plainness": {"is_plain": (), "fork": (), "fork_states": ()},
    "alike": {"is_alike": (Kin(HOUSE), WiredKin(HOUSE)), "parting": (Kin(HOUSE), WiredKin(HOUSE))},
    "glimpse": {
        "matches": ((None, 0, None, 1), STATE),
        "can_follow": (STATE, (None, 0, None, 1)),
        "blocked_lamp": (STATE, (None, 0, None, 1)),
        "matching_state": (STATE, (None, 0, None, 1)),
        "match_count": (STATE, (None, 0, None, 1)),
    },
    "mending": {
        "follows": (LOG[0], LOG[1]),
        "longest_kept": (LOG,),
        "groups": (LOG,),
        "is_mended": (LOG, [0, 1], [[0, 3], [1], [2]]),
    },
    "hidden": {
        "hidden_tallies": (STATE, DARK),
        "hidden_ranges": (STATE, DARK),
        "sure_lamps": (STATE, DARK),
        "still_lamps": (STATE, DARK),
    },
    "commands": {"perform": (Desk(HOUSE, STATE), "show")},
    "facts": {
        "is_fact": (3, FACT),
        "names_in": (3, TOLD),
        "facts_of": (["b", "a"], [STATE, LOW]),
    },
    "closing": {
        "close": (3, TOLD),
        "contradictions": (3, TOLD),
        "is_step": (3, TOLD, (FACT, "told", ())),
        "derivation": (3, TOLD, FACT),
        "is_derivation": (3, TOLD, FACT, derivation(3, TOLD, FACT)),
    },
    "search": {
        "plain_reachable": (STATE,),
        "plain_lengths": (STATE, LOW),
        "plain_meet": (STATE, LOW),
        "plain_join": (STATE, LOW),
    },
    "report": {"run_table": (STATE, [2, 3])},
}
STATES = ["state", "source", "target", "first", "second", "middle"]
LAMPS = ["lamp", "upper", "lower"]
# Here `first` and `second` are runs and entries.
OTHER_WORDS = [("swaps", "is_swap"), ("mending", "follows")]


def functions():
    """Each function of the interface that is no class: its module, its name, itself and its arguments."""
    for module_name, names in FUNCTIONS.items():
        module = importlib.import_module("huefall." + module_name)
        for name, signature in names.items():
            if not inspect.isclass(getattr(module, name)):
                rest = CALLS[module_name][name]
                arguments = (HOUSE, *rest) if signature.startswith("(house") else rest
                yield module_name, name, getattr(module, name), arguments


def result_of(function, *args, **named):
    """What the call returns, or the list of what it yields."""
    result = function(*args, **named)
    return list(result) if inspect.isgeneratorfunction(function) else result


def spoil(value):
    """Change all lists and dicts within the value."""
    if isinstance(value, (list, tuple)):
        for item in value:
            spoil(item)
    if isinstance(value, (list, dict)):
        value.clear()


class ConventionsTest(FaultTest):
    def test_every_function_is_called(self):
        listed = {(module, name) for module, names in CALLS.items() for name in names}
        self.assertEqual(listed, {(module, name) for module, name, _, _ in functions()})

    def test_nothing_is_changed_and_nothing_is_shared(self):
        for module_name, name, function, arguments in functions():
            if name not in ("perform", "is_alike", "parting"):
                kept = deepcopy(arguments)
                expected = deepcopy(result_of(function, *arguments))
                spoil(result_of(function, *arguments))
                self.assertEqual(arguments, kept, name)
                self.assertEqual(result_of(function, *arguments), expected, name)

    def test_states_and_lamps_are_checked_in_order_and_first(self):
        checked = 0
        for module_name, name, function, arguments in functions():
            parameters = inspect.signature(function).parameters
            if (module_name, name) in OTHER_WORDS or "house" not in parameters:
                continue
            named = {"limit": -1} if "limit" in parameters else {}
            for place, parameter in enumerate(list(parameters)[:len(arguments)]):
                if parameter in STATES or parameter in LAMPS:
                    checked += 1
                    self.check_place(function, arguments, place, parameter, named)
        self.assertGreater(checked, 80)

    def check_place(self, function, arguments, place, parameter, named):
        """The call raises the error for this argument, whatever the later ones are."""
        error, values = (InvalidState, no_states(HOUSE)) if parameter in STATES else (InvalidLamp, no_lamps(HOUSE))
        word = "state" if parameter in STATES else "lamp"
        later = [["later"] for _ in arguments[place + 1:]]
        for value in values:
            for rest in (arguments[place + 1:], later):
                call = (result_of, function, *arguments[:place], value, *rest)
                self.assert_fault(error, {word: value}, *call, **named)

    def test_kinds_of_results(self):
        for module_name, name, function, arguments in functions():
            if name.startswith(("is_", "can_", "matches", "fits", "follows")):
                self.assertIs(type(result_of(function, *arguments)), bool, name)
