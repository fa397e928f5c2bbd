import importlib
import inspect
import unittest

# The functions and classes of each module with their arguments.
FUNCTIONS = {
    "house": {
        "House": "(count, hues, wires=())",
        "is_lamp": "(house, value)",
    },
    "shapes": {
        "chain": "(count, hues)",
        "stairs": "(parents, hues)",
        "hillside": "(rows, columns, hues)",
        "floors": "(sizes, hues)",
        "side_by_side": "(first, second)",
        "stacked": "(first, second)",
    },
    "states": {
        "is_state": "(house, value)",
        "dark_state": "(house)",
        "bright_state": "(house)",
        "mirror": "(house, state)",
        "lit_lamps": "(house, state)",
        "number_of": "(house, state)",
        "state_of": "(house, number)",
    },
    "notation": {
        "house_text": "(house)",
        "state_text": "(house, state)",
        "run_text": "(house, run)",
        "read_house": "(text)",
        "read_state": "(house, text)",
        "read_run": "(house, text)",
    },
    "moves": {
        "is_allowed": "(house, state, lamp, *, careful=False)",
        "allowed_lamps": "(house, state, *, careful=False)",
        "after": "(house, state, lamp, *, careful=False)",
        "before": "(house, state, lamp, *, careful=False)",
    },
    "runs": {
        "play": "(house, state, run, *, careful=False)",
        "states_along": "(house, state, run, *, careful=False)",
        "first_refused": "(house, state, run, *, careful=False)",
        "counts_of": "(house, run)",
        "each_state": "(house, state, run, *, careful=False)",
    },
    "swaps": {
        "is_swap": "(house, first, second)",
        "sorted_form": "(house, run)",
        "neighbours": "(house, run)",
    },
    "reach": {
        "topmost_differences": "(house, source, target)",
        "is_reachable": "(house, source, target)",
        "obstacle": "(house, source, target)",
        "compare": "(house, first, second)",
        "witnesses": "(house, first, second)",
    },
    "statelists": {
        "sort_states": "(house, states)",
        "uppermost": "(house, states)",
        "lowermost": "(house, states)",
        "longest_chain": "(house, states)",
        "layers": "(house, states)",
    },
    "tally": {
        "Tally": "(counts)",
        "loads": "(house, tally)",
        "fits": "(house, source, target, tally)",
    },
    "lengths": {
        "least_tally": "(house, source, target)",
        "greatest_tally": "(house, source, target)",
        "weights": "(house)",
        "worth": "(house, state)",
        "length_range": "(house, source, target)",
        "is_length": "(house, source, target, length)",
        "tally_of_length": "(house, source, target, length)",
        "tally_with": "(house, source, target, lamp, count)",
        "least_run": "(house, source, target, *, limit=1000)",
        "longest_run": "(house, source, target, *, limit=1000)",
        "run_of_length": "(house, source, target, length, *, limit=1000)",
    },
    "building": {
        "normal_run": "(house, source, tally, *, limit=1000)",
        "careful_run": "(house, source, target, *, limit=1000)",
        "next_careful": "(house, source, target)",
    },
    "signs": {
        "way_number": "(house, upper, lower)",
        "sign": "(house, upper, lower)",
        "way_row": "(house, lower)",
        "sign_row": "(house, lower)",
        "least_by_signs": "(house, source, target)",
        "greatest_by_ways": "(house, source, target)",
    },
    "tallies": {
        "all_tallies": "(house, source, target, *, limit=2000)",
    },
    "certificates": {
        "certificate": "(house, source, target)",
        "careful_certificate": "(house, source, target, *, limit=1000)",
        "is_certificate": "(house, source, target, value, *, careful=False)",
        "joined": "(house, source, middle, target)",
    },
    "counting": {
        "lower_count": "(house, state)",
        "upper_count": "(house, state)",
        "pair_count": "(house)",
        "rank_below": "(house, state, target)",
        "state_at_rank": "(house, state, rank)",
    },
    "listing": {
        "each_below": "(house, state, *, limit=4096)",
        "each_above": "(house, state, *, limit=4096)",
        "between": "(house, source, target, *, limit=4096)",
        "level_sizes": "(house, *, limit=4096)",
    },
    "moebius": {
        "lowest_lit": "(house, state)",
        "lowered": "(house, state, lamps)",
        "moebius": "(house, source, target)",
        "inclusion": "(house, state)",
        "invert": "(house, state, total)",
    },
    "lattice": {
        "meet": "(house, first, *others)",
        "join": "(house, first, *others)",
        "pieces": "(house, state)",
        "join_all": "(house, states)",
        "meet_all": "(house, states)",
        "is_single": "(house, state)",
        "single_count": "(house)",
    },
    "covers": {
        "covered_by": "(house, state)",
        "covers_of": "(house, state)",
        "is_cover": "(house, source, target)",
    },
    "plainness": {
        "is_plain": "(house)",
        "fork": "(house)",
        "fork_states": "(house)",
    },
    "kin": {
        "Kin": "(house)",
        "CarefulKin": "(house)",
        "WiredKin": "(house)",
        "CarefulWiredKin": "(house)",
    },
    "otherkin": {
        "GainKin": "(house, gain)",
        "CoinKin": "(house)",
        "MixedKin": "(house, sizes)",
    },
    "alike": {
        "is_alike": "(first, second)",
        "parting": "(first, second)",
    },
    "glimpse": {
        "matches": "(house, glimpse, state)",
        "can_follow": "(house, state, glimpse)",
        "blocked_lamp": "(house, state, glimpse)",
        "matching_state": "(house, state, glimpse)",
        "match_count": "(house, state, glimpse)",
    },
    "watcher": {
        "Watcher": "(house, state)",
    },
    "mending": {
        "follows": "(house, first, second)",
        "longest_kept": "(house, log)",
        "groups": "(house, log)",
        "is_mended": "(house, log, kept, parts)",
    },
    "hidden": {
        "hidden_tallies": "(house, source, target, *, length=None, known=(), limit=2000)",
        "hidden_ranges": "(house, source, target, *, length=None, known=(), limit=2000)",
        "sure_lamps": "(house, source, target)",
        "still_lamps": "(house, source, target)",
    },
    "desk": {
        "Desk": "(house, state, *, mode='free')",
    },
    "commands": {
        "perform": "(desk, text)",
    },
    "facts": {
        "is_fact": "(hues, value)",
        "names_in": "(hues, told)",
        "facts_of": "(house, names, states)",
    },
    "closing": {
        "close": "(hues, told)",
        "contradictions": "(hues, told)",
        "is_step": "(hues, told, step)",
        "derivation": "(hues, told, fact)",
        "is_derivation": "(hues, told, fact, steps)",
    },
    "search": {
        "plain_reachable": "(house, source, *, careful=False, limit=4096)",
        "plain_lengths": "(house, source, target, *, careful=False, limit=256)",
        "plain_meet": "(house, first, second, *, limit=256)",
        "plain_join": "(house, first, second, *, limit=256)",
    },
    "report": {
        "run_table": "(house, state, run, *, careful=False)",
    },
    "errors": {
        "InvalidHouse": "(part, index)",
        "InvalidLamp": "(lamp)",
        "InvalidState": "(state)",
        "InvalidTally": "(counts)",
        "InvalidNumber": "(number)",
        "InvalidText": "(line)",
        "InvalidGlimpse": "(glimpse)",
        "InvalidLine": "(entry)",
        "InvalidEntry": "(index)",
        "InvalidMode": "(word)",
        "InvalidFact": "(fact)",
        "RefusedMove": "(lamp, step)",
        "DarkLamp": "(lamp, step)",
        "LitBeneath": "(lamp, step, lower)",
        "NotReachable": "(lamp)",
        "WrongLength": "(length, reason)",
        "TooLong": "(length)",
        "TooMany": "(count)",
        "NoHistory": "(index)",
    },
}
# The methods that a class defines itself, with their arguments as a caller passes them.
METHODS = {
    ("house", "House"): {
        "__eq__": "(self, other)",
        "__len__": "(self)",
        "beneath": "(self, lamp)",
        "above": "(self, lamp)",
        "direct": "(self, lamp)",
        "is_beneath": "(self, lower, upper)",
        "is_comparable": "(self, upper, lower)",
        "order": "(self)",
        "tops": "(self)",
        "bottoms": "(self)",
        "depth": "(self, lamp)",
        "closed": "(self)",
        "reduced": "(self)",
        "scattered": "(count, hues)",
    },
    ("tally", "Tally"): {
        "__eq__": "(self, other)",
        "__len__": "(self)",
        "__add__": "(self, other)",
        "at": "(self, lamp)",
        "of_run": "(cls, house, run)",
    },
    ("kin", "Kin"): {
        "turned": "(self, lamp)",
        "factor": "(self, lamp)",
        "is_state": "(self, value)",
        "allowed": "(self, state, lamp)",
        "after": "(self, state, lamp)",
        "greatest": "(self, source, target)",
        "reaches": "(self, source, target)",
        "worth": "(self, state)",
        "run": "(self, source, target, *, limit=1000)",
    },
    ("kin", "CarefulKin"): {"allowed": "(self, state, lamp)"},
    ("kin", "WiredKin"): {"turned": "(self, lamp)"},
    ("otherkin", "GainKin"): {"factor": "(self, lamp)"},
    ("otherkin", "CoinKin"): {"is_state": "(self, value)"},
    ("otherkin", "MixedKin"): {"factor": "(self, lamp)", "is_state": "(self, value)"},
    ("watcher", "Watcher"): {
        "__call__": "(self, line)",
        "sure": "(self, lamp)",
        "history": "(self)",
        "fork": "(self)",
    },
    ("desk", "Desk"): {
        "move": "(self, lamp)",
        "attempt": "(self, run)",
        "undo": "(self)",
        "redo": "(self)",
        "change_mode": "(self, word)",
        "run": "(self)",
        "twin": "(self)",
        "aim": "(self, target)",
        "is_open": "(self)",
        "lost_at": "(self)",
        "hint": "(self)",
    },
}
PROPERTIES = {
    ("tally", "Tally"): ["total"],
    ("watcher", "Watcher"): ["possible", "failed_at"],
    ("desk", "Desk"): ["current", "current_worth", "steps", "goal", "mode"],
}
CONSTANTS = {
    ("lengths", "MOST_MOVES"): 1000,
    ("tallies", "MOST_TALLIES"): 2000,
    ("listing", "MOST_STATES"): 4096,
    ("watcher", "MOST_WATCHED"): 256,
    ("facts", "MOST_NAMES"): 8,
}
LABELS = {
    ("kin", "Kin"): "free",
    ("kin", "CarefulKin"): "careful",
    ("kin", "WiredKin"): "wired",
    ("kin", "CarefulWiredKin"): "careful wired",
    ("otherkin", "GainKin"): "gain",
    ("otherkin", "CoinKin"): "coin",
    ("otherkin", "MixedKin"): "mixed",
}
# The methods that each rule has, its own or those of a class above.
RULE_METHODS = ["turned", "factor", "is_state", "allowed", "after", "greatest", "reaches", "worth", "run"]


class InterfaceTest(unittest.TestCase):
    def test_functions_and_classes(self):
        for module_name, functions in FUNCTIONS.items():
            module = importlib.import_module("huefall." + module_name)
            for name, arguments in functions.items():
                value = getattr(module, name)
                self.assertEqual(str(inspect.signature(value)), arguments, name)
                self.assertEqual(value.__module__, module.__name__, name)

    def test_methods_stand_in_their_class(self):
        for (module_name, class_name), methods in METHODS.items():
            owner = getattr(importlib.import_module("huefall." + module_name), class_name)
            for name, arguments in methods.items():
                self.assertIn(name, vars(owner))
                value = vars(owner)[name]
                function = getattr(value, "__func__", value)
                self.assertEqual(str(inspect.signature(function)), arguments, name)

    def test_properties_stand_in_their_class(self):
        for (module_name, class_name), names in PROPERTIES.items():
            owner = getattr(importlib.import_module("huefall." + module_name), class_name)
            for name in names:
                self.assertIsInstance(vars(owner)[name], property)
                # Only the mode of a desk can be assigned.
                self.assertEqual(vars(owner)[name].fset is None, name != "mode")

    def test_constants(self):
        for (module_name, name), number in CONSTANTS.items():
            module = importlib.import_module("huefall." + module_name)
            self.assertEqual(vars(module)[name], number)
            self.assertIs(type(vars(module)[name]), int)

    def test_labels_stand_in_their_class(self):
        for (module_name, name), label in LABELS.items():
            owner = getattr(importlib.import_module("huefall." + module_name), name)
            self.assertEqual(vars(owner)["LABEL"], label)
            for method in RULE_METHODS:
                self.assertTrue(inspect.isfunction(getattr(owner, method)), method)

    def test_static_method_class_method_and_generators(self):
        house = importlib.import_module("huefall.house")
        self.assertIsInstance(vars(house.House)["scattered"], staticmethod)
        tally = importlib.import_module("huefall.tally")
        self.assertIsInstance(vars(tally.Tally)["of_run"], classmethod)
        runs = importlib.import_module("huefall.runs")
        self.assertTrue(inspect.isgeneratorfunction(runs.each_state))
        listing = importlib.import_module("huefall.listing")
        self.assertTrue(inspect.isgeneratorfunction(listing.each_below))
        self.assertTrue(inspect.isgeneratorfunction(listing.each_above))
