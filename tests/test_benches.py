"""Points 1 (i), 3 and 22: passes and benches."""

import random
import unittest

from flowkeep import boxes, classes, cleaning, constants, motion, shaping, single
from flowkeep.benches import Bench, led_through, passes
from flowkeep.errors import InvalidGraph, InvalidPass, NothingToUndo, NotPlain, NotSingle, TooMany
from flowkeep.finding import paper
from flowkeep.texts import parse_graph
from tests.arguments import NO_GRAPHS, WRONG, check_arguments, check_error
from tests.plains import random_plain
from tests.programs import ALL, D, K, L
from tests.samples import oddities

FUNCTIONS = {
    "folded": constants.folded, "in_boxes": boxes.in_boxes, "joined": cleaning.joined, "jumped": cleaning.jumped,
    "lifted": motion.lifted, "plain": single.plain, "shared": classes.shared, "single": single.single,
    "swept": cleaning.swept, "trimmed": shaping.trimmed, "uncopied": cleaning.uncopied,
}
# A graph with 40 blocks that has no room for one more in front.
BACK = (("a",), tuple(((), ("go", (at + 1) % 40)) for at in range(40)))


class PassesTest(unittest.TestCase):
    def test_names(self):
        self.assertEqual(passes(), tuple(sorted(FUNCTIONS)))
        self.assertEqual(len(passes()), 11)


class LedThroughTest(unittest.TestCase):
    def test_examples(self):
        self.assertEqual(led_through(K, ()), K)

    def test_each_pass(self):
        for name, function in FUNCTIONS.items():
            for graph in (L, D, K):
                if name in ("folded", "in_boxes", "shared", "swept", "uncopied"):
                    graph = single.single(graph)
                self.assertEqual(led_through(graph, (name,)), function(graph), name)

    def test_one_after_the_other(self):
        names = ("trimmed", "single", "folded", "uncopied", "shared", "swept", "joined", "in_boxes", "jumped", "joined", "lifted", "trimmed")
        for graph in (L, D, K):
            expected = graph
            for name in names:
                expected = FUNCTIONS[name](expected)
            self.assertEqual(led_through(graph, names), expected)

    def test_what_a_pass_raises(self):
        self.assertRaises(NotSingle, led_through, L, ("swept",))
        self.assertRaises(NotPlain, led_through, L, ("single", "lifted"))
        self.assertRaises(NotPlain, led_through, ALL, ("single",))
        self.assertRaises(NotSingle, led_through, ALL, ("joined",))
        self.assertRaises(TooMany, led_through, BACK, ("single",))
        self.assertRaises(NotSingle, led_through, L, ("single", "plain", "swept"))

    def test_a_wrong_name_comes_ahead_of_what_a_pass_raises(self):
        self.assertRaises(InvalidPass, led_through, L, ("swept", "x"))
        self.assertRaises(InvalidPass, led_through, BACK, ("single", None))

    def test_twelve_names_and_one_more(self):
        self.assertEqual(led_through(L, ("trimmed",) * 12), L)
        self.assertRaises(InvalidPass, led_through, L, ("trimmed",) * 13)

    def test_wrong_arguments(self):
        check_arguments(self, led_through, (L, ("trimmed",)), ("graph", "names"))
        for graph in NO_GRAPHS:
            self.assertRaises(InvalidGraph, led_through, graph, ())


class BenchTest(unittest.TestCase):
    def test_leading(self):
        bench = Bench(L)
        self.assertEqual((bench.graph(), bench.names(), bench.papers(), len(bench)), (L, (), (), 0))
        self.assertEqual(bench.lead("single"), single.single(L))
        self.assertEqual(bench.graph(), single.single(L))
        self.assertEqual(bench.lead("swept"), cleaning.swept(single.single(L)))
        self.assertEqual((bench.names(), len(bench)), (("single", "swept"), 2))

    def test_undo_and_redo(self):
        bench = Bench(L)
        self.assertRaises(NothingToUndo, bench.undo)
        self.assertRaises(NothingToUndo, bench.redo)
        bench.lead("single")
        bench.lead("plain")
        self.assertRaises(NothingToUndo, bench.redo)
        self.assertEqual(bench.undo(), "plain")
        self.assertEqual((bench.graph(), bench.names()), (single.single(L), ("single",)))
        self.assertEqual(bench.undo(), "single")
        self.assertEqual((bench.graph(), bench.names()), (L, ()))
        self.assertRaises(NothingToUndo, bench.undo)
        self.assertEqual(bench.redo(), "single")
        self.assertEqual(bench.redo(), "plain")
        self.assertEqual((bench.graph(), bench.names()), (single.plain(single.single(L)), ("single", "plain")))
        self.assertRaises(NothingToUndo, bench.redo)

    def test_no_redo_behind_a_lead(self):
        bench = Bench(L)
        bench.lead("single")
        bench.lead("plain")
        bench.undo()
        bench.lead("swept")
        self.assertRaises(NothingToUndo, bench.redo)
        self.assertEqual(bench.names(), ("single", "swept"))

    def test_redo_behind_a_lead_that_raises(self):
        bench = Bench(L)
        bench.lead("single")
        bench.lead("plain")
        bench.undo()
        self.assertRaises(NotPlain, bench.lead, "lifted")
        self.assertRaises(InvalidPass, bench.lead, "nothing")
        self.assertEqual(bench.redo(), "plain")
        self.assertEqual(bench.names(), ("single", "plain"))

    def test_a_call_that_raises_changes_nothing(self):
        for graph, name, error in ((L, "swept", NotSingle), (ALL, "single", NotPlain), (ALL, "joined", NotSingle), (BACK, "single", TooMany), (BACK, "lifted", TooMany)):
            bench = Bench(graph)
            self.assertRaises(error, bench.lead, name)
            self.assertRaises(NothingToUndo, bench.undo)
            self.assertRaises(NothingToUndo, bench.redo)
            self.assertEqual((bench.graph(), bench.names(), len(bench), bench.papers()), (graph, (), 0, ()))

    def test_papers(self):
        bench = Bench(D)
        bench.lead("lifted")
        self.assertEqual(bench.papers(), (((0, 1), (1, 1), (2, 1), (3, 1)),))
        bench.lead("single")
        bench.lead("swept")
        self.assertEqual(len(bench.papers()), 3)
        bench.undo()
        self.assertEqual(bench.papers(), (paper(D, motion.lifted(D)), paper(motion.lifted(D), single.single(motion.lifted(D)))))
        bench.undo()
        bench.undo()
        self.assertEqual(bench.papers(), ())

    def test_equality(self):
        one, other = Bench(L), Bench(L)
        self.assertTrue(one == other)
        self.assertFalse(one != other)
        one.lead("trimmed")
        self.assertFalse(one == other)
        self.assertTrue(one != other)
        other.lead("joined")
        # The graphs are the same, but not the passes.
        self.assertEqual(one.graph() == other.graph(), cleaning.joined(L) == L)
        self.assertFalse(one == other)
        other.undo()
        self.assertFalse(one == other)
        other.lead("trimmed")
        self.assertTrue(one == other)
        one.lead("single")
        one.undo()
        self.assertTrue(one == other)
        self.assertFalse(Bench(L) == Bench(D))
        # They began with other graphs, though the graphs are the same now.
        first, second = Bench(ALL), Bench(shaping.trimmed(ALL))
        first.lead("trimmed")
        second.lead("trimmed")
        self.assertEqual(first.graph(), second.graph())
        self.assertFalse(first == second)

    def test_a_bench_is_not_equal_to_any_other_value(self):
        bench = Bench(L)
        for value in oddities() + [L, (), 0, ("trimmed",), [L], Bench, bench.names(), (L, ())]:
            self.assertIs(bench == value, False)
            self.assertIs(bench != value, True)
            self.assertIs(value == bench, False)

    def test_what_is_returned_does_not_change(self):
        bench = Bench(L)
        names, graph = bench.names(), bench.graph()
        bench.lead("single")
        self.assertEqual((names, graph), ((), L))
        self.assertIs(type(bench.names()), tuple)
        self.assertIs(type(bench.papers()), tuple)

    def test_wrong_arguments(self):
        for graph in NO_GRAPHS:
            self.assertRaises(InvalidGraph, Bench, graph)
        bench = Bench(L)
        for error, wrongs in WRONG["pass"]:
            for wrong in wrongs:
                check_error(self, error, bench.lead, (wrong,))
        self.assertEqual((bench.graph(), len(bench)), (L, 0))


class Plain:
    """What a bench must tell, reckoned from the start each time."""

    def __init__(self, graph):
        self.start, self.done, self.undone = graph, [], []

    def graph(self):
        graph = self.start
        for name in self.done:
            graph = FUNCTIONS[name](graph)
        return graph

    def lead(self, name):
        if name not in FUNCTIONS:
            return InvalidPass
        try:
            FUNCTIONS[name](self.graph())
        except (NotPlain, NotSingle, TooMany) as error:
            return type(error)
        self.done, self.undone = self.done + [name], []
        return self.graph()

    def undo(self):
        if not self.done:
            return NothingToUndo
        self.undone = self.undone + self.done[-1:]
        self.done = self.done[:-1]
        return self.undone[-1]

    def redo(self):
        if not self.undone:
            return NothingToUndo
        self.done = self.done + self.undone[-1:]
        self.undone = self.undone[:-1]
        return self.done[-1]


def called(function, *arguments):
    """Return what the function returns, or the class of what it raises."""
    try:
        return function(*arguments)
    except ValueError as error:
        return type(error)


class RandomTest(unittest.TestCase):
    def test_drawn_operations(self):
        chance = random.Random(1)
        raised = 0
        for number in range(60):
            graph = random_plain(chance, 5, 4) if number % 4 else (L, D, K, ALL, BACK)[number // 4 % 5]
            bench, plain = Bench(graph), Plain(graph)
            for _ in range(25):
                kind = chance.choice(("lead", "lead", "lead", "undo", "undo", "redo"))
                arguments = (chance.choice(sorted(FUNCTIONS) + ["none"]),) if kind == "lead" else ()
                told = called(getattr(bench, kind), *arguments)
                self.assertEqual(told, getattr(plain, kind)(*arguments))
                raised += isinstance(told, type)
                self.assertEqual((bench.graph(), bench.names(), len(bench)), (plain.graph(), tuple(plain.done), len(plain.done)))
                fresh = Bench(graph)
                for name in plain.done:
                    fresh.lead(name)
                self.assertTrue(bench == fresh)
                self.assertEqual(led_through(graph, tuple(plain.done[:12])) == bench.graph() or len(plain.done) > 12, True)
        self.assertGreater(raised, 100)

    def test_papers_of_drawn_passes(self):
        chance = random.Random(2)
        for _ in range(15):
            graph = random_plain(chance, 5, 3)
            bench = Bench(graph)
            graphs = [graph]
            for name in ("trimmed", "single", "folded", "uncopied", "swept", "joined", "in_boxes", "jumped"):
                graphs.append(bench.lead(name))
            self.assertEqual(bench.papers(), tuple(paper(old, new) for old, new in zip(graphs, graphs[1:])))


if __name__ == "__main__":
    unittest.main()
