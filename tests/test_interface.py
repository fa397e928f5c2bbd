import importlib
import inspect
import unittest

# The functions and classes of each module with their arguments.
FUNCTIONS = {
    "house": {
        "House": "(count, hues, wires=())",
        "is_lamp": "(house, value)",
    },
    "shapes": {
        "chain": "(count, hues)",
        "stairs": "(parents, hues)",
        "hillside": "(rows, columns, hues)",
        "floors": "(sizes, hues)",
        "side_by_side": "(first, second)",
        "stacked": "(first, second)",
    },
    "states": {
        "is_state": "(house, value)",
        "dark_state": "(house)",
        "bright_state": "(house)",
        "mirror": "(house, state)",
        "lit_lamps": "(house, state)",
        "number_of": "(house, state)",
        "state_of": "(house, number)",
    },
    "notation": {
        "house_text": "(house)",
        "state_text": "(house, state)",
        "run_text": "(house, run)",
        "read_house": "(text)",
        "read_state": "(house, text)",
        "read_run": "(house, text)",
    },
    "errors": {
        "InvalidHouse": "(part, index)",
        "InvalidLamp": "(lamp)",
        "InvalidState": "(state)",
        "InvalidTally": "(counts)",
        "InvalidNumber": "(number)",
        "InvalidText": "(line)",
        "InvalidGlimpse": "(glimpse)",
        "InvalidLine": "(entry)",
        "InvalidEntry": "(index)",
        "InvalidMode": "(word)",
        "InvalidFact": "(fact)",
        "RefusedMove": "(lamp, step)",
        "DarkLamp": "(lamp, step)",
        "LitBeneath": "(lamp, step, lower)",
        "NotReachable": "(lamp)",
        "WrongLength": "(length, reason)",
        "TooLong": "(length)",
        "TooMany": "(count)",
        "NoHistory": "(index)",
    },
}
# The methods that a class defines itself, with their arguments as a caller passes them.
METHODS = {
    ("house", "House"): {
        "__eq__": "(self, other)",
        "__len__": "(self)",
        "beneath": "(self, lamp)",
        "above": "(self, lamp)",
        "direct": "(self, lamp)",
        "is_beneath": "(self, lower, upper)",
        "is_comparable": "(self, upper, lower)",
        "order": "(self)",
        "tops": "(self)",
        "bottoms": "(self)",
        "depth": "(self, lamp)",
        "closed": "(self)",
        "reduced": "(self)",
        "scattered": "(count, hues)",
    },
}
PROPERTIES = {}


class InterfaceTest(unittest.TestCase):
    def test_functions_and_classes(self):
        for module_name, functions in FUNCTIONS.items():
            module = importlib.import_module("huefall." + module_name)
            for name, arguments in functions.items():
                value = getattr(module, name)
                self.assertEqual(str(inspect.signature(value)), arguments, name)
                self.assertEqual(value.__module__, module.__name__, name)

    def test_methods_stand_in_their_class(self):
        for (module_name, class_name), methods in METHODS.items():
            owner = getattr(importlib.import_module("huefall." + module_name), class_name)
            for name, arguments in methods.items():
                self.assertIn(name, vars(owner))
                value = vars(owner)[name]
                function = getattr(value, "__func__", value)
                self.assertEqual(str(inspect.signature(function)), arguments, name)

    def test_properties_stand_in_their_class(self):
        for (module_name, class_name), names in PROPERTIES.items():
            owner = getattr(importlib.import_module("huefall." + module_name), class_name)
            for name in names:
                self.assertIsInstance(vars(owner)[name], property)

    def test_static_method(self):
        house = importlib.import_module("huefall.house")
        self.assertIsInstance(vars(house.House)["scattered"], staticmethod)


if __name__ == "__main__":
    unittest.main()
