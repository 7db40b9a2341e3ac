"""The interface: every name is defined in its own file, with the arguments that are told."""

import importlib
import inspect
import unittest

FUNCTIONS = {
    "numbers": {
        "is_whole": ["thing"],
        "is_fraction": ["thing"],
        "is_row": ["thing", "many"],
        "fraction_of": ["top", "bottom"],
        "plus": ["one", "other"],
        "minus": ["one", "other"],
        "times": ["one", "other"],
        "ratio": ["one", "other"],
        "is_less": ["one", "other"],
        "weigh": ["row", "other"],
        "show_number": ["one"],
        "read_number": ["text", "most"],
    },
    "sums": {
        "sum_at": ["one", "row"],
        "sum_plus": ["one", "other"],
        "sum_times": ["by", "one"],
        "flat_sum": ["many", "number"],
        "place_sum": ["many", "place"],
    },
}

METHODS = {
    "layers": {
        "Layer": {"told": ["self"], "sums": ["self", "ahead"], "passed": ["self", "ahead"]},
        "CutLayer": {"told": ["self"], "sums": ["self", "ahead"], "passed": ["self", "ahead"]},
    },
}


class InterfaceTest(unittest.TestCase):
    def test_functions_stand_in_their_files(self):
        for file, functions in FUNCTIONS.items():
            module = importlib.import_module(f"noughtcut.{file}")
            for name, arguments in functions.items():
                with self.subTest(file=file, name=name):
                    function = getattr(module, name)
                    self.assertTrue(inspect.isfunction(function))
                    self.assertEqual(function.__module__, module.__name__)
                    self.assertEqual(list(inspect.signature(function).parameters), arguments)

    def test_thirty_figures_where_none_is_told(self):
        module = importlib.import_module("noughtcut.numbers")
        self.assertEqual(inspect.signature(module.read_number).parameters["most"].default, 30)

    def test_methods_stand_in_the_classes_themselves(self):
        for file, classes in METHODS.items():
            module = importlib.import_module(f"noughtcut.{file}")
            for name, methods in classes.items():
                kind = getattr(module, name)
                self.assertEqual(kind.__module__, module.__name__)
                self.assertEqual(list(inspect.signature(kind).parameters), ["nodes"])
                for method, arguments in methods.items():
                    with self.subTest(file=file, name=name, method=method):
                        self.assertIn(method, vars(kind))
                        self.assertEqual(list(inspect.signature(vars(kind)[method]).parameters), arguments)


if __name__ == "__main__":
    unittest.main()
