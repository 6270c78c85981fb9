"""Points 1, 3 and the interface, over the whole program."""

import ast
import copy
import importlib
import os
import random
import unittest

from flowkeep import errors
from flowkeep.benches import Bench
from flowkeep.single import single
from flowkeep.texts import format_graph, parse_graph
from tests.plains import random_plain
from tests.programs import ALL, D, K, L, random_graph
from tests.samples import oddities
from tests.singles import random_single
from tests.test_interface import INTERFACE

S = single(L)
WORDS = ((2, 4, 0), (0, 6, 1))
FORMULA = ("mul", ("in", 0), ("add", ("in", 0), ("num", 3)))
EACH = ((0, 1), (1, 1), (2, 1), (3, 1))
# Right arguments for each function of the interface.
CALLS = {
    "words": {"wrapped": [(70000,), (-1,)], "twos": [(48,)], "inverse": [(3,)]},
    "spans": {
        "form": [(WORDS, 3)], "contains": [(WORDS, 3, (4, 8, 0))], "same_span": [(WORDS, WORDS, 3)], "count_rows": [(WORDS, 3)],
        "equations": [(WORDS, 3)], "holds": [(WORDS, 3, (0, 0, 0))], "multipliers": [(WORDS, 3, (2, 10, 1))]},
    "powers": {
        "is_formula": [(1, FORMULA)], "value": [(FORMULA, (7,))], "normal": [(FORMULA, 1)], "same_function": [(FORMULA, FORMULA, 2)],
        "parting": [(FORMULA, ("in", 1), 2)], "degree": [(FORMULA, 2)]},
    "graphs": {"is_graph": [(L,)], "is_plain": [(ALL,)], "names": [(L,)], "count_steps": [(ALL,)]},
    "texts": {"format_graph": [(ALL,)], "parse_graph": [(format_graph(D),)]},
    "running": {"run": [(L, (3,), (), 100)], "visits": [(L, (3,), (1,), 100)], "count_run": [(S, (3,), (), 100)]},
    "flow": {
        "after": [(L, 1)], "before": [(L, 1)], "reachable": [(ALL,)], "order": [(ALL,)], "is_way": [(L, (0, 1))], "shortest": [(L, 3)],
        "ways_to": [(L, 3, 6)]},
    "linear": {
        "states_at": [(L, 1)], "equations_at": [(L, 2)], "breaking": [(L, 1, (0, 1, 0, 0, 0, 0, 0, 0, 0, 0))], "count_values": [(L, (0, 1, 2))],
        "walk": [(L, (0, 1, 2), (3, 1))], "known_at": [(L, 1)], "equal_at": [(L, 1, "i")]},
    "ruling": {
        "rulers": [(L, 3)], "ruler": [(L, 3)], "tree": [(L,)], "fringe": [(L, 2)], "whole_fringe": [(D, (1, 2))], "must_pass": [(L, 2)]},
    "loops": {"back_edges": [(L,)], "heads": [(L,)], "loop": [(L, 1)], "depth": [(L, 2)], "outer": [(L, 1)], "tangles": [(ALL,)]},
    "facts": {"live": [(L, 1)], "reaching": [(L, 1)], "at_hand": [(D, 3)], "needed": [(D, 0)]},
    "shaping": {"trimmed": [(ALL,)]},
    "single": {"single": [(L,)], "is_single": [(S,)], "in_sequence": [([("a", "b"), ("b", "a")], "t")], "plain": [(S,), (ALL,)]},
    "classes": {"classes": [(S,)], "shared": [(single(D),)]},
    "constants": {"constants": [(single(K),)], "entered": [(S,)], "folded": [(single(K),)]},
    "rounds": {"is_counted": [(S, 1)], "rounds": [(single(K), 1)]},
    "cleaning": {"swept": [(S,)], "uncopied": [(single(D),)], "joined": [(L,), (S,)], "jumped": [(L,)]},
    "motion": {"lifted": [(D,)], "reckonings": [(D, (0, 1, 3))]},
    "boxes": {"most_at_once": [(S,)], "together": [(S,)], "boxes": [(S,)], "in_boxes": [(S,)]},
    "papers": {"is_paper": [(L, L, EACH)], "agrees": [(L, L, EACH)]},
    "finding": {"paper": [(L, S)], "shows_same": [(L, D)]},
    "benches": {"passes": [()], "led_through": [(L, ("single", "swept", "in_boxes"))]},
}
# What has no wrong arguments, or does not check them.
UNCHECKED = ("in_sequence", "reckonings", "passes")


def function_of(module, name):
    return getattr(importlib.import_module("flowkeep." + module), name)


def calls():
    """Yield the module, the name and the right arguments of all calls."""
    for module, functions in CALLS.items():
        for name, rows in functions.items():
            for arguments in rows:
                yield module, name, arguments


def outcome(function, arguments):
    """Return what the function returns, or the class of what it raises."""
    try:
        return function(*arguments)
    except ValueError as error:
        return type(error)


class CallsTest(unittest.TestCase):
    def test_all_functions_are_called(self):
        self.assertEqual({module: sorted(functions) for module, functions in CALLS.items()}, {
            module: sorted(functions) for module, functions in INTERFACE.items()})

    def test_equal_arguments_give_equal_results(self):
        first = {}
        for module, name, arguments in calls():
            first[(module, name, repr(arguments))] = function_of(module, name)(*arguments)
        for module, name, arguments in reversed(list(calls())):
            again = function_of(module, name)(*copy.deepcopy(arguments))
            self.assertEqual(again, first[(module, name, repr(arguments))], name)
            self.assertIs(type(again), type(first[(module, name, repr(arguments))]), name)

    def test_no_argument_is_changed(self):
        for module, name, arguments in calls():
            before = copy.deepcopy(arguments)
            function_of(module, name)(*arguments)
            self.assertEqual(arguments, before, name)

    def test_no_wrong_argument_is_changed(self):
        chance = random.Random(1)
        for module, name, arguments in calls():
            if name not in UNCHECKED:
                for at in range(len(arguments)):
                    for wrong in chance.sample(oddities(), 12):
                        changed = arguments[:at] + (wrong,) + arguments[at + 1:]
                        before = repr(changed)
                        outcome(function_of(module, name), changed)
                        self.assertEqual(repr(changed), before, name)

    def test_each_exception_is_of_one_class_alone_and_a_value_error(self):
        found = set()
        for module, name, arguments in calls():
            if name not in UNCHECKED:
                for at in range(len(arguments)):
                    for wrong in oddities() + [(), 0, -1, (0,), ("x",)]:
                        result = outcome(function_of(module, name), arguments[:at] + (wrong,) + arguments[at + 1:])
                        if isinstance(result, type):
                            self.assertEqual(result.__mro__[:3], (result, errors.FlowError, ValueError), name)
                            found.add(result.__name__)
        self.assertLessEqual({
            "InvalidNumber", "InvalidRow", "InvalidFormula", "InvalidGraph", "InvalidBlock", "InvalidName", "InvalidValues", "InvalidWay",
            "InvalidText", "InvalidPass", "InvalidPaper", "NotOdd", "NoLoop"}, found)

    def test_functions_that_take_any_value(self):
        for module, functions in INTERFACE.items():
            for name in functions:
                if name.startswith("is_") and name != "is_counted":
                    arguments = CALLS[module][name][0]
                    for value in oddities() + [(), 0]:
                        self.assertIn(function_of(module, name)(*arguments[:-1], value), (True, False))

    def test_results_do_not_depend_on_what_was_called_before(self):
        chance = random.Random(2)
        graphs = [random_plain(chance, 5, 4) for _ in range(10)] + [random_single(chance, 5, 4) for _ in range(10)]
        names = ("folded", "in_boxes", "joined", "jumped", "lifted", "plain", "shared", "single", "swept", "trimmed", "uncopied")
        first = [outcome(function_of("benches", "led_through"), (graph, (name,))) for graph in graphs for name in names]
        again = [
            outcome(function_of("benches", "led_through"), (parse_graph(format_graph(graph)), (name,))) for graph in graphs[::-1] for name in names[::-1]]
        self.assertEqual(first, again[::-1])


class TextsTest(unittest.TestCase):
    def test_parsing_is_the_inverse_of_formatting(self):
        chance = random.Random(3)
        for number in range(100):
            graph = (random_plain, random_single, random_graph)[number % 3](chance)
            self.assertEqual(parse_graph(format_graph(graph)), graph)
            for name in ("trimmed", "plain", "single", "lifted"):
                made = outcome(function_of("benches", "led_through"), (graph, (name,)))
                if not isinstance(made, type):
                    self.assertEqual(parse_graph(format_graph(made)), made)


class ClassesTest(unittest.TestCase):
    def test_benches_define_their_methods_themselves(self):
        for name in ("__init__", "lead", "graph", "names", "papers", "undo", "redo", "__len__", "__eq__"):
            self.assertIn(name, vars(Bench))
        self.assertEqual(Bench.__bases__, (object,))
        self.assertEqual(Bench.__module__, "flowkeep.benches")

    def test_all_modules_of_the_interface(self):
        folder = os.path.dirname(importlib.import_module("flowkeep").__file__)
        for module in list(INTERFACE) + ["errors"]:
            self.assertTrue(os.path.exists(os.path.join(folder, module + ".py")), module)

    def test_nothing_of_the_interface_is_imported_into_its_file(self):
        for module, functions in INTERFACE.items():
            with open(importlib.import_module("flowkeep." + module).__file__, encoding="utf-8") as file:
                tree = ast.parse(file.read())
            brought = {alias.name for node in tree.body if isinstance(node, ast.ImportFrom) for alias in node.names}
            self.assertEqual(brought & set(functions), set(), module)


if __name__ == "__main__":
    unittest.main()
