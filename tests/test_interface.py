"""The interface: each name stands in its file, with its arguments."""

import ast
import importlib
import os
import unittest

INTERFACE = {
    "words": {"wrapped": ["number"], "twos": ["number"], "inverse": ["number"]},
    "spans": {
        "form": ["rows", "width"], "contains": ["rows", "width", "row"], "same_span": ["rows", "others", "width"],
        "count_rows": ["rows", "width"], "equations": ["rows", "width"], "holds": ["rows", "width", "equation"],
        "multipliers": ["rows", "width", "row"],
    },
    "powers": {
        "is_formula": ["inputs", "value"], "value": ["formula", "values"], "normal": ["formula", "inputs"],
        "same_function": ["one", "other", "inputs"], "parting": ["one", "other", "inputs"],
        "degree": ["formula", "inputs"],
    },
    "graphs": {"is_graph": ["value"], "is_plain": ["value"], "names": ["graph"], "count_steps": ["graph"]},
    "texts": {"format_graph": ["graph"], "parse_graph": ["text"]},
    "running": {
        "run": ["graph", "values", "answers", "most"], "visits": ["graph", "values", "answers", "most"],
        "count_run": ["graph", "values", "answers", "most"],
    },
    "flow": {
        "after": ["graph", "block"], "before": ["graph", "block"], "reachable": ["graph"], "order": ["graph"],
        "is_way": ["graph", "value"], "shortest": ["graph", "block"], "ways_to": ["graph", "block", "most"],
    },
    "linear": {
        "states_at": ["graph", "block"], "equations_at": ["graph", "block"], "breaking": ["graph", "block", "equation"],
        "count_values": ["graph", "way"], "walk": ["graph", "way", "values"], "known_at": ["graph", "block"],
        "equal_at": ["graph", "block", "name"],
    },
    "ruling": {
        "rulers": ["graph", "block"], "ruler": ["graph", "block"], "tree": ["graph"], "fringe": ["graph", "block"],
        "whole_fringe": ["graph", "blocks"], "must_pass": ["graph", "block"],
    },
    "loops": {
        "back_edges": ["graph"], "heads": ["graph"], "loop": ["graph", "head"], "depth": ["graph", "block"],
        "outer": ["graph", "head"], "tangles": ["graph"],
    },
    "facts": {
        "live": ["graph", "block"], "reaching": ["graph", "block"], "at_hand": ["graph", "block"],
        "needed": ["graph", "block"],
    },
    "shaping": {"trimmed": ["graph"]},
    "single": {
        "single": ["graph"], "is_single": ["value"], "in_sequence": ["pairs", "spare"], "plain": ["graph"],
    },
    "classes": {"classes": ["graph"], "shared": ["graph"]},
    "constants": {"constants": ["graph"], "entered": ["graph"], "folded": ["graph"]},
    "rounds": {"is_counted": ["graph", "head"], "rounds": ["graph", "head"]},
    "cleaning": {"swept": ["graph"], "uncopied": ["graph"], "joined": ["graph"], "jumped": ["graph"]},
    "motion": {"lifted": ["graph"], "reckonings": ["graph", "way"]},
    "boxes": {"most_at_once": ["graph"], "together": ["graph"], "boxes": ["graph"], "in_boxes": ["graph"]},
    "papers": {"is_paper": ["old", "new", "value"], "agrees": ["old", "new", "paper"]},
    "finding": {"paper": ["old", "new"], "shows_same": ["old", "new"]},
    "benches": {"passes": [], "led_through": ["graph", "names"]},
}


BENCH = {
    "__init__": ["self", "graph"], "lead": ["self", "name"], "graph": ["self"], "names": ["self"], "papers": ["self"],
    "undo": ["self"], "redo": ["self"], "__len__": ["self"], "__eq__": ["self", "other"],
}


class InterfaceTest(unittest.TestCase):
    def test_benches(self):
        found = importlib.import_module("flowkeep.benches")
        with open(found.__file__, encoding="utf-8") as file:
            tree = ast.parse(file.read())
        bench = [node for node in tree.body if isinstance(node, ast.ClassDef) and node.name == "Bench"][0]
        methods = {node.name: [one.arg for one in node.args.args] for node in bench.body if isinstance(node, ast.FunctionDef)}
        self.assertEqual(methods, BENCH)

    def test_each_function_is_defined_in_its_file(self):
        for module, functions in INTERFACE.items():
            found = importlib.import_module("flowkeep." + module)
            with open(found.__file__, encoding="utf-8") as file:
                tree = ast.parse(file.read())
            defined = {node.name: node for node in tree.body if isinstance(node, ast.FunctionDef)}
            for name, arguments in functions.items():
                self.assertIn(name, defined, module)
                self.assertEqual([one.arg for one in defined[name].args.args], arguments, (module, name))
                self.assertEqual(defined[name].args.defaults, [], (module, name))

    def test_the_package_is_one_folder_at_the_top(self):
        folder = os.path.dirname(importlib.import_module("flowkeep").__file__)
        self.assertEqual(os.path.dirname(folder), os.path.dirname(os.path.dirname(os.path.abspath(__file__))))


if __name__ == "__main__":
    unittest.main()
