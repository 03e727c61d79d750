"""The names of the interface stand in their files, with their arguments."""

import inspect
import unittest

from figuresums import errors, kept, whole
from figuresums.figures import carries, written
from figuresums.others import multiples, weights
from figuresums.stretches import ends, rests, told, totals

FUNCTIONS = (
    (written, "read_number", ["text", "base"]),
    (written, "number_shown", ["number", "base"]),
    (written, "figures_of", ["number", "base"]),
    (written, "sum_of", ["number", "base"]),
    (written, "root_of", ["number", "base"]),
    (totals, "total_of", ["first", "last", "base"]),
    (totals, "figures_in", ["first", "last", "base"]),
    (told, "count_with", ["first", "last", "told", "base"]),
    (told, "nth_with", ["place", "told", "base"]),
    (told, "place_of", ["number", "base"]),
    (told, "beside", ["number", "base"]),
    (rests, "counts_by_rest", ["first", "last", "divisor", "base"]),
    (rests, "count_both", ["first", "last", "told", "divisor", "rest", "base"]),
    (rests, "count_divided", ["first", "last", "base"]),
    (ends, "ends_of", ["first", "last", "base"]),
    (ends, "records_in", ["first", "last", "base"]),
    (weights, "weighed", ["number", "weights", "base"]),
    (weights, "weighed_total", ["first", "last", "weights", "base"]),
    (weights, "weighed_rests", ["first", "last", "weights", "divisor", "base"]),
    (multiples, "least_multiple", ["divisor", "told", "base"]),
    (multiples, "least_sum", ["divisor", "base"]),
    (carries, "carries_of", ["one", "other", "base"]),
    (carries, "pairs_without", ["bound", "base"]),
    (carries, "turned_sum", ["number", "base"]),
    (carries, "count_turned", ["first", "last", "told", "base"]),
)
CLASSES = (
    (kept, "KeptNumber", ["base"], {"add": ["number"], "less": ["number"], "number_now": [], "sum_now": [],
                                    "carries_now": []}),
    (whole, "Desk", [], {"ask": ["line"]}),
)


class InterfaceTest(unittest.TestCase):
    def test_functions_stand_in_their_files(self):
        for module, name, arguments in FUNCTIONS:
            with self.subTest(name=name):
                function = getattr(module, name)
                self.assertEqual(function.__module__, module.__name__)
                self.assertEqual(list(inspect.signature(function).parameters), arguments)

    def test_classes_stand_in_their_files_with_their_methods(self):
        for module, name, arguments, methods in CLASSES:
            with self.subTest(name=name):
                kind = getattr(module, name)
                self.assertEqual(kind.__module__, module.__name__)
                self.assertEqual(list(inspect.signature(kind).parameters), arguments)
                for method, handed in methods.items():
                    self.assertIn(method, vars(kind))
                    parameters = list(inspect.signature(vars(kind)[method]).parameters)
                    self.assertEqual(parameters, ["self"] + handed)

    def test_errors_stand_in_their_file(self):
        for name in ("SumError", "NoStretch", "NoAsk", "NoNumber"):
            with self.subTest(name=name):
                self.assertEqual(getattr(errors, name).__module__, errors.__name__)


if __name__ == "__main__":
    unittest.main()
