import unittest

from huefall import errors

ATTRIBUTES = {
    "InvalidHouse": ["part", "index"],
    "InvalidLamp": ["lamp"],
    "InvalidState": ["state"],
    "InvalidTally": ["counts"],
    "InvalidNumber": ["number"],
    "InvalidText": ["line"],
    "InvalidGlimpse": ["glimpse"],
    "InvalidLine": ["entry"],
    "InvalidEntry": ["index"],
    "InvalidMode": ["word"],
    "InvalidFact": ["fact"],
    "RefusedMove": ["lamp", "step"],
    "DarkLamp": ["lamp", "step"],
    "LitBeneath": ["lamp", "step", "lower"],
    "NotReachable": ["lamp"],
    "WrongLength": ["length", "reason"],
    "TooLong": ["length"],
    "TooMany": ["count"],
    "NoHistory": ["index"],
    "NothingToUndo": [],
    "NothingToRedo": [],
    "NoGoal": [],
}
REFUSED = ["DarkLamp", "LitBeneath"]


class ErrorsTest(unittest.TestCase):
    def test_base_class(self):
        self.assertEqual(errors.HuefallError.__bases__, (ValueError,))

    def test_direct_subclasses(self):
        for name in ATTRIBUTES:
            base = errors.RefusedMove if name in REFUSED else errors.HuefallError
            self.assertEqual(getattr(errors, name).__bases__, (base,), name)

    def test_neither_refused_move_is_the_other(self):
        self.assertFalse(issubclass(errors.DarkLamp, errors.LitBeneath))
        self.assertFalse(issubclass(errors.LitBeneath, errors.DarkLamp))

    def test_attributes_come_from_the_arguments_in_order(self):
        for name, attributes in ATTRIBUTES.items():
            values = [object() for _ in attributes]
            error = getattr(errors, name)(*values)
            self.assertEqual(vars(error), dict(zip(attributes, values)), name)

    def test_errors_of_own_attributes_can_be_raised_and_shown(self):
        for name, attributes in ATTRIBUTES.items():
            values = list(range(len(attributes)))
            with self.assertRaises(ValueError) as caught:
                raise getattr(errors, name)(*values)
            self.assertIsInstance(str(caught.exception), str)
