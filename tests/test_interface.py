"""The names of the interface stand in their files, with their arguments."""

import inspect
import unittest

from figuresums import errors
from figuresums.figures import written
from figuresums.stretches import totals

FUNCTIONS = (
    (written, "read_number", ["text", "base"]),
    (written, "number_shown", ["number", "base"]),
    (written, "figures_of", ["number", "base"]),
    (written, "sum_of", ["number", "base"]),
    (written, "root_of", ["number", "base"]),
    (totals, "total_of", ["first", "last", "base"]),
    (totals, "figures_in", ["first", "last", "base"]),
)


class InterfaceTest(unittest.TestCase):
    def test_functions_stand_in_their_files(self):
        for module, name, arguments in FUNCTIONS:
            with self.subTest(name=name):
                function = getattr(module, name)
                self.assertEqual(function.__module__, module.__name__)
                self.assertEqual(list(inspect.signature(function).parameters), arguments)

    def test_errors_stand_in_their_file(self):
        for name in ("SumError", "NoStretch", "NoAsk", "NoNumber"):
            with self.subTest(name=name):
                self.assertEqual(getattr(errors, name).__module__, errors.__name__)


if __name__ == "__main__":
    unittest.main()
