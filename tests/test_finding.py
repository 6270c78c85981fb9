"""Points 1 (h), 2.7, 3 and 21: finding papers."""

import random
import unittest
from unittest import mock

from flowkeep.boxes import in_boxes
from flowkeep.classes import shared
from flowkeep.cleaning import joined, jumped, swept, uncopied
from flowkeep.constants import folded
from flowkeep.errors import TooMany
from flowkeep.finding import paper, shows_same
from flowkeep.graphs import is_plain, names
from flowkeep.motion import lifted
from flowkeep.papers import agrees
from flowkeep.shaping import trimmed
from flowkeep.single import is_single, plain, single
from flowkeep.texts import parse_graph
from tests.arguments import check_arguments
from tests.mutants import changed, run_alike
from tests.plains import KINDS, random_plain
from tests.programs import ALL, D, K, L, NAMES, NESTED, ODD, ONE, ROUND, TANGLE, random_graph
from tests.singles import random_single

FOR_ALL = (trimmed, plain)
FOR_PLAIN = (single, jumped, joined, lifted)
FOR_SINGLE = (folded, uncopied, swept, joined, in_boxes, shared)
EACH = ((0, 1), (1, 1), (2, 1), (3, 1))


def is_small(graph):
    return len(graph[1]) <= 8 and len(names(graph)) <= 15


def made_of(graph):
    """Yield the passes that lead the graph through, and what they make of it."""
    for action in FOR_ALL + (FOR_PLAIN if is_plain(graph) else ()) + (FOR_SINGLE if is_single(graph) else ()):
        try:
            yield action, action(graph)
        except TooMany:
            pass


def found(old, new):
    return paper(parse_graph(old), parse_graph(new))


class ExamplesTest(unittest.TestCase):
    def test_examples(self):
        self.assertEqual(paper(D, lifted(D)), ((0, 1), (1, 1), (2, 1), (3, 1)))
        self.assertIs(shows_same(L, D), False)
        self.assertIsNone(paper(L, D))

    def test_the_same_graph(self):
        for graph in (L, D, K, ONE, ROUND, TANGLE):
            self.assertIs(agrees(graph, graph, paper(graph, graph)), True)
            self.assertIs(shows_same(graph, graph), True)


class PassesTest(unittest.TestCase):
    def check(self, graph):
        """Check that a paper is found for all that the passes make of the graph, and return how many there were."""
        many = 0
        for action, new in made_of(graph):
            if is_small(graph) and is_small(new):
                told = paper(graph, new)
                if action not in (shared, lifted):
                    self.assertIsNotNone(told, (action.__name__, graph, new))
                if told is not None:
                    self.assertIs(agrees(graph, new, told), True)
                many += 1
                if many % 4 == 0:
                    self.assertIs(shows_same(graph, new), told is not None)
        return many

    def test_known_graphs(self):
        for graph in (L, D, K, ALL, ODD, TANGLE, NESTED, ONE, ROUND):
            self.check(graph)
            if is_plain(graph):
                self.check(single(graph))
                self.check(plain(single(graph)))

    def test_plain_graphs(self):
        chance = random.Random(1)
        for number in range(80):
            kinds = (KINDS, ("set", "copy", "add"), ("copy", "set", "show"), ("add", "mul", "less", "copy", "div"))[number % 4]
            graph = random_plain(chance, 8, (1, 3, 5)[number % 3], NAMES[:2 + number % 5], kinds)
            self.check(graph)
            self.check(single(graph))

    def test_graphs_in_single_form(self):
        chance = random.Random(2)
        for number in range(90):
            self.check(random_single(chance, 8, (1, 2, 3)[number % 3]))

    def test_graphs_with_blocks_that_cant_be_come_to(self):
        chance = random.Random(3)
        for number in range(150):
            self.check(random_graph(chance, number % 2, 8, 3))

    def test_small_steps_and_many_goes(self):
        chance = random.Random(4)
        for number in range(60):
            graph = random_plain(chance, 8, 1, ("a", "b")[:1 + number % 2], ("copy", "add", "set"))
            self.check(graph)
            self.check(single(graph))
            self.check(random_single(chance, 8, 1, ("copy", "set")))

    def test_passes_one_after_the_other(self):
        chance = random.Random(5)
        shown = 0
        for _ in range(60):
            graph = random_plain(chance, 5, 3, ("a", "b", "c"), ("set", "copy", "add", "mul", "show", "less", "ask"))
            new = joined(plain(swept(uncopied(folded(single(graph))))))
            told = paper(graph, new)
            if told is not None:
                self.assertIs(agrees(graph, new, told), True)
                shown += 1
        self.assertGreater(shown, 50)


class WithoutGuessesTest(unittest.TestCase):
    """What the passes that keep the sequence of blocks make is found even where no guess has led to it."""

    def test_drawn_graphs(self):
        chance = random.Random(8)
        many = 0
        with mock.patch("flowkeep.finding.MOST_WORK", 0):
            for number in range(60):
                graph = random_plain(chance, 8, (0, 1, 3)[number % 3], NAMES[:1 + number % 5])
                for start in (graph, single(graph), random_single(chance, 8, 3), random_graph(chance, True, 8, 2)):
                    for action, new in made_of(start):
                        if is_small(start) and is_small(new) and action not in (shared, lifted):
                            told = paper(start, new)
                            self.assertIsNotNone(told, (action.__name__, start, new))
                            self.assertIs(agrees(start, new, told), True)
                            many += 1
            self.assertIsNone(paper(L, D))
        self.assertGreater(many, 500)


class OthersTest(unittest.TestCase):
    def test_rows(self):
        self.assertEqual(
            found("given a;block 0;x = a;go 1;block 1;x = x + a;go 2;block 2;pick x 0 3;block 3;give x", "given a;block 0;x = a * 2;pick x 0 1;block 1;give x"),
            ((0, 3), (3, 1)))

    def test_rows_over_known_picks(self):
        self.assertEqual(found("given a;block 0;k = 5;pick k 1 2;block 1;show a;give a;block 2;give k", "given a;block 0;show a;give a"), ((0, 2),))

    def test_lengths_of_0(self):
        self.assertEqual(found("given a;block 0;show a;go 0", "given a;block 0;go 1;block 1;show a;go 1"), ((0, 0), (0, 1)))
        self.assertEqual(
            found("given a b;block 0;pick a 1 2;block 1;show a;go 2;block 2;show b;give b", "given a b;block 0;pick a 1 3;block 1;show a;c = b;go 2;block 2;show c;give b;block 3;c = b;go 2"),
            ((0, 1), (1, 1), (2, 1), (2, 0)))

    def test_an_unrolled_loop(self):
        new = "given a;block 0;show a;go 1;block 1;show a;show a;go 1"
        told = found("given a;block 0;show a;go 0", new)
        self.assertIs(agrees(parse_graph("given a;block 0;show a;go 0"), parse_graph(new), told), True)

    def test_a_loop_turned_round(self):
        old = "given a b;block 0;go 1;block 1;pick b 2 3;block 2;show b;b = b - a;go 1;block 3;give b"
        new = "given a b;block 0;pick b 1 2;block 1;show b;b = b - a;pick b 1 2;block 2;give b"
        self.assertIs(shows_same(parse_graph(old), parse_graph(new)), True)

    def test_blocks_in_another_sequence(self):
        self.assertEqual(
            found("given a;block 0;pick a 1 2;block 1;show a;give a;block 2;give a", "given a;block 0;pick a 2 1;block 1;give a;block 2;show a;give a"),
            ((0, 1), (2, 1), (1, 1)))

    def test_nothing_is_found(self):
        texts = [
            ("given a;block 0;show a;give a", "given a;block 0;give a"), ("given a;block 0;give a", "given a;block 0;go 0"),
            ("given a;block 0;x = ask;give a", "given a;block 0;give a"), ("given a b;block 0;give a", "given a b;block 0;give b"),
            ("given a b;block 0;x = a / b;give a", "given a b;block 0;give a"), ("given a;block 0;give a", "given a b;block 0;give a"),
            ("given a;block 0;go 0", "given a;block 0;show a;go 0"), ("given a;block 0;x = a * a;give x", "given a;block 0;x = a * 2;give x"),
            ("given a;block 0;pick a 1 2;block 1;give a;block 2;show a;give a", "given a;block 0;pick a 2 1;block 1;give a;block 2;show a;give a"),
            ("given a;block 0;x = a / z;give a", "given a;block 0;give a"), ("given a;block 0;show a;show z;give a", "given a;block 0;show z;show a;give a"),
        ]
        for old, new in texts:
            self.assertIsNone(found(old, new))
            self.assertIsNone(found(new, old))
            self.assertIs(shows_same(parse_graph(old), parse_graph(new)), False)

    def test_changed_graphs(self):
        chance = random.Random(6)
        counts = {True: 0, False: 0}
        for number in range(100):
            graph = random_single(chance, 5, 4) if number % 2 else random_plain(chance, 5, 4)
            for _, new in list(made_of(graph))[number % 3:4]:
                other = changed(chance, new)
                if other is not None:
                    told = paper(graph, other)
                    counts[told is not None] += 1
                    if told is not None:
                        self.assertIs(agrees(graph, other, told), True)
                        self.assertIs(run_alike(chance, graph, other, 8), True, (graph, other, told))
        self.assertGreater(counts[True], 40)
        self.assertGreater(counts[False], 40)

    def test_great_graphs(self):
        chance = random.Random(7)
        graph = random_plain(chance, 30, 20, kinds=("add", "mul", "copy", "set", "ask", "show", "less", "write", "read"))
        for new in (trimmed(graph), single(graph), joined(graph), jumped(graph)):
            self.assertIs(agrees(graph, new, paper(graph, new)), True)


class ArgumentsTest(unittest.TestCase):
    def test_wrong_arguments(self):
        for function in (paper, shows_same):
            check_arguments(self, function, (L, L), ("graph", "graph"))
            check_arguments(self, function, (ALL, K), ("graph", "graph"))


if __name__ == "__main__":
    unittest.main()
