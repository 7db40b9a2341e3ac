"""The interface: every name is defined in its own file, with the arguments that are told."""

import importlib
import inspect
import unittest

FUNCTIONS = {
    "numbers": {
        "is_whole": ["thing"],
        "is_fraction": ["thing"],
        "is_row": ["thing", "many"],
        "fraction_of": ["top", "bottom"],
        "plus": ["one", "other"],
        "minus": ["one", "other"],
        "times": ["one", "other"],
        "ratio": ["one", "other"],
        "is_less": ["one", "other"],
        "weigh": ["row", "other"],
        "show_number": ["one"],
        "read_number": ["text", "most"],
    },
    "sums": {
        "sum_at": ["one", "row"],
        "sum_plus": ["one", "other"],
        "sum_times": ["by", "one"],
        "flat_sum": ["many", "number"],
        "place_sum": ["many", "place"],
    },
    "nets": {
        "net_of": ["told"],
        "same_net": ["one", "other"],
        "with_weight": ["net", "layer", "node", "place", "number"],
        "with_number": ["net", "layer", "node", "number"],
        "node_net": ["net", "layer", "node"],
    },
    "nettext": {
        "show_net": ["net"],
        "read_net": ["text"],
        "show_box": ["box"],
        "read_box": ["text"],
    },
    "boxes": {
        "is_box": ["thing"],
        "is_in": ["box", "thing"],
        "middle": ["box"],
        "box_wishes": ["box"],
        "least_of": ["box", "one"],
        "greatest_of": ["box", "one"],
    },
    "settling": {
        "settle": ["box", "wishes", "aim"],
        "settle_strictly": ["box", "wishes", "strict"],
    },
    "handing": {
        "handed_on": ["net", "box"],
        "states_of": ["net", "box"],
    },
    "tighter": {
        "tightened": ["net", "box"],
    },
    "cases": {
        "sums_by": ["net", "pattern"],
        "wishes_by": ["nets", "box", "pattern", "many"],
    },
    "trees": {
        "greatest_at": ["nets", "box", "aim"],
        "least_at": ["nets", "box", "aim"],
        "closes": ["nets", "box", "aim", "number", "tree"],
        "node_state": ["net", "box", "layer", "node"],
    },
    "alike": {
        "told_alike": ["one", "other", "box"],
        "shows_alike": ["one", "other", "box", "thing"],
    },
    "needless": {
        "without_wire": ["net", "layer", "node", "place"],
        "hushed": ["net", "layer", "node"],
        "needless_wires": ["net", "box"],
        "needless_nodes": ["net", "box"],
        "slimmed": ["net", "box"],
    },
    "pieces": {
        "cover_of": ["net", "box"],
        "is_cover": ["net", "box", "thing"],
        "pieces_of": ["net", "box"],
    },
    "wanted": {
        "always_holds": ["net", "box", "wish"],
        "shows_always": ["net", "box", "wish", "thing"],
        "above_all": ["net", "box", "out"],
        "shows_above": ["net", "box", "out", "thing"],
        "find_spot": ["net", "box", "wishes"],
        "shows_found": ["net", "box", "wishes", "thing"],
    },
    "together": {
        "behind": ["one", "other"],
        "beside": ["one", "other"],
        "opposite": ["net"],
    },
    "treetext": {
        "show_tree": ["tree"],
        "read_tree": ["text"],
    },
    "desklines": {
        "read_line": ["line"],
    },
}

# Of each class what it is made of, and its methods.
METHODS = {
    "layers": {
        "Layer": (["nodes"], {"told": [], "sums": ["ahead"], "passed": ["ahead"]}),
        "CutLayer": (["nodes"], {"told": [], "sums": ["ahead"], "passed": ["ahead"]}),
    },
    "nets": {
        "Net": (
            ["ins", "layers"],
            {
                "ins": [], "outs": [], "hidden": [], "layers_told": [], "places": [], "told": [],
                "outs_at": ["spot"], "sums_at": ["spot"], "pattern_at": ["spot"],
            },
        ),
    },
    "settling": {
        "Settled": ([], {"has_spot": [], "shows": ["box", "wishes", "aim"]}),
        "Most": (["spot", "multiples"], {"has_spot": [], "shows": ["box", "wishes", "aim"]}),
        "Empty": (["multiples"], {"has_spot": [], "shows": ["box", "wishes", "aim"]}),
        "Inside": (["spot"], {"has_spot": [], "shows": ["box", "wishes", "strict"]}),
        "Outside": (["multiples"], {"has_spot": [], "shows": ["box", "wishes", "strict"]}),
    },
    "desk": {
        "Desk": ([], {"say": ["line"]}),
    },
}


class InterfaceTest(unittest.TestCase):
    def test_functions_stand_in_their_files(self):
        for file, functions in FUNCTIONS.items():
            module = importlib.import_module(f"noughtcut.{file}")
            for name, arguments in functions.items():
                with self.subTest(file=file, name=name):
                    function = getattr(module, name)
                    self.assertTrue(inspect.isfunction(function))
                    self.assertEqual(function.__module__, module.__name__)
                    self.assertEqual(list(inspect.signature(function).parameters), arguments)

    def test_thirty_figures_where_none_is_told(self):
        module = importlib.import_module("noughtcut.numbers")
        self.assertEqual(inspect.signature(module.read_number).parameters["most"].default, 30)

    def test_methods_stand_in_the_classes_themselves(self):
        for file, classes in METHODS.items():
            module = importlib.import_module(f"noughtcut.{file}")
            for name, (made_of, methods) in classes.items():
                kind = getattr(module, name)
                self.assertEqual(kind.__module__, module.__name__)
                self.assertEqual(list(inspect.signature(kind).parameters), made_of)
                for method, arguments in methods.items():
                    with self.subTest(file=file, name=name, method=method):
                        self.assertIn(method, vars(kind))
                        self.assertEqual(list(inspect.signature(vars(kind)[method]).parameters), ["self", *arguments])


if __name__ == "__main__":
    unittest.main()
