"""The examples of the document, as they stand there, in the file examples.txt beside this one.

An example ends with the value of its last line, or with the error that the line raises.
"""

import unittest
from pathlib import Path

EXAMPLES = Path(__file__).resolve().parent / "examples.txt"


def outcome(lines):
    """The written value of the last line after the lines before it, or the error that it raises."""
    names = {}
    exec("\n".join(lines[:-1]), names)
    try:
        return repr(eval(lines[-1], names))
    except ValueError as error:
        told = ", ".join(f"{name}={value!r}" for name, value in vars(error).items())
        return f"raises {type(error).__name__}({told})"


class ExamplesTest(unittest.TestCase):
    def test_examples(self):
        blocks = EXAMPLES.read_text(encoding="ascii").rstrip("\n").split("\n\n")
        self.assertEqual(len(blocks), 11)
        for block in blocks:
            *lines, expected = block.split("\n")
            self.assertTrue(all(line.startswith(">>> ") for line in lines), block)
            self.assertEqual(outcome([line[4:] for line in lines]), expected, block)
