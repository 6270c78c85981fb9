"""Points 1 (d), 1 (g), 2.7, 3, 13 and 19: lifting."""

import random
import unittest

from flowkeep.errors import NotPlain, TooMany
from flowkeep.facts import at_hand, needed
from flowkeep.graphs import is_plain, names
from flowkeep.motion import lifted, reckonings
from flowkeep.shaping import trimmed
from flowkeep.single import single
from flowkeep.texts import format_graph, parse_graph
from tests.arguments import check_arguments
from tests.plains import EXPRESSIONS, random_plain
from tests.programs import ALL, D, K, L, goals_of, random_graph
from tests.singles import check_meaning
from tests.slow import step_gives, told_at_hand, told_expression, told_needed

KINDS = ("add", "add", "sub", "mul", "times", "less", "set", "copy", "show", "ask")
LIFTED_D = (
    "given a b;block 0;e0 = a + b;pick a 1 2;block 1;x = e0;go 3;block 2;y = e0;x = y;go 3;block 3;z = e0;show z;give x")


def text_of(text):
    """Return the text of what lifted makes of the graph with this text."""
    return format_graph(lifted(parse_graph(text)))


def left_aside(steps):
    """Return the steps without those with expressions and copies."""
    return [step for step in steps if step[0] != "copy" and step[0] not in EXPRESSIONS]


def ends_of(graph, most):
    """Yield the rows of places in ends, and the ways, of at most so many blocks, that end with a give."""
    level = [((), (0,))]
    for _ in range(most):
        further = []
        for places, way in level:
            end = graph[1][way[-1]][1]
            if end[0] == "give":
                yield places, way
            goals = [part for part in end[1:] if isinstance(part, int)]
            further += [(places + (place,), way + (goal,)) for place, goal in enumerate(goals)]
        level = further


def way_along(graph, places, front, many):
    """Return the way in a lifted graph that goes by the same places of the ends of its first blocks.

    So many blocks are the first ones; a new one in front, if there is one, is among them.
    """
    way = [0]
    if front:
        way.append(graph[1][0][1][1])
    for place in places:
        way.append([part for part in graph[1][way[-1]][1][1:] if isinstance(part, int)][place])
        if way[-1] >= many:
            way.append(graph[1][way[-1]][1][1])
    return tuple(way)


def counted(graph, way):
    """Return how often each expression is reckoned along the way."""
    found = {}
    for block in way:
        for step in graph[1][block][0]:
            if told_expression(step):
                found[told_expression(step)] = found.get(told_expression(step), 0) + 1
    return found


class Lifting:
    """Checks all that the document tells of a lifted graph but its meaning."""

    def __init__(self, test, graph):
        self.test = test
        self.old = trimmed(graph)
        self.new = lifted(graph)
        self.front = any(0 in goals_of(end) for _, end in self.old[1])
        self.many = len(self.old[1]) + self.front
        self.check_shape()
        self.check_names(graph)

    def check_shape(self):
        test, blocks = self.test, self.new[1]
        test.assertIs(is_plain(self.new), True)
        test.assertEqual(self.new[0], self.old[0])
        if self.front:
            test.assertEqual(blocks[0][1], ("go", 1))
            test.assertEqual(left_aside(blocks[0][0]), [])
        for at, (steps, end) in enumerate(self.old[1]):
            its_steps, its_end = blocks[at + self.front]
            test.assertEqual(left_aside(its_steps), left_aside(steps))
            test.assertEqual(len(end), len(its_end))
            for part, its in zip(end, its_end):
                if isinstance(part, int):
                    its = blocks[its][1][1] if its >= self.many else its
                    test.assertEqual(its, part + self.front)
                else:
                    test.assertEqual(its, part)
        for steps, end in blocks[self.many:]:
            test.assertTrue(steps)
            test.assertTrue(all(step[0] in EXPRESSIONS for step in steps))
            test.assertTrue(end[0] == "go" and end[1] < self.many)

    def check_names(self, graph):
        test, old = self.test, set(names(graph))
        kept = {}
        for steps, _ in self.new[1]:
            for step in steps:
                if told_expression(step):
                    test.assertNotIn(step[1], old)
                    test.assertEqual(kept.setdefault(told_expression(step), step[1]), step[1])
        test.assertEqual(len(set(kept.values())), len(kept))

    def check_counts(self, most):
        """Check the counts along all ways of at most so many blocks; return whether some were reckoned less often."""
        test, fewer = self.test, 0
        once = [
            one for one in told_needed(self.old, 0)
            if not any(step_gives(step) in one[1:] for steps, _ in self.old[1] for step in steps)]
        for places, way in ends_of(self.old, most):
            its_way = way_along(self.new, places, self.front, self.many)
            before, behind = counted(self.old, way), counted(self.new, its_way)
            for one, many in behind.items():
                test.assertLessEqual(many, before.get(one, 0), (self.old, self.new, way))
            for one in once:
                test.assertEqual(behind.get(one), 1)
            test.assertEqual(reckonings(self.new, its_way), sum(behind.values()))
            test.assertEqual(reckonings(self.old, way), sum(before.values()))
            fewer += sum(behind.values()) < sum(before.values())
        return fewer > 0

    def check_at_hand(self):
        for at in range(len(self.old[1])):
            for one in told_at_hand(self.old, at):
                for step in self.new[1][at + self.front][0]:
                    self.test.assertNotEqual(told_expression(step), one, (self.old, self.new))
                    if step_gives(step) in one[1:]:
                        break


class ExamplesTest(unittest.TestCase):
    def test_examples(self):
        self.assertEqual(format_graph(lifted(D)), LIFTED_D)
        self.assertEqual(reckonings(D, (0, 1, 3)), 2)


class LiftedTest(unittest.TestCase):
    def test_an_expression_by_itself_is_kept_too(self):
        self.assertEqual(text_of("given a b;block 0;x = a - b;give x"), "given a b;block 0;e0 = a - b;x = e0;give x")

    def test_each_kind_of_expression(self):
        self.assertEqual(
            text_of("given a b;block 0;x = a + b;x = a - b;x = a * b;x = a * 3;x = a < b;x = a / b;x = a;x = 3;give x"),
            "given a b;block 0;e0 = a + b;e1 = a < b;e2 = a * b;e3 = a - b;e4 = a * 3;x = e0;x = e3;x = e2;x = e4;x = e1;x = a / b;x = a;x = 3;give x")

    def test_one_that_is_reckoned_twice(self):
        self.assertEqual(
            text_of("given a b;block 0;x = a + b;y = a + b;a = y;z = a + b;z = a + b;give z"),
            "given a b;block 0;e0 = a + b;x = e0;y = e0;a = y;e0 = a + b;z = e0;z = e0;give z")

    def test_sums_in_the_other_sequence_are_others(self):
        self.assertEqual(
            text_of("given a b;block 0;x = a + b;y = b + a;give y"), "given a b;block 0;e0 = a + b;e1 = b + a;x = e0;y = e1;give y")

    def test_a_step_that_gives_a_name_that_it_reads(self):
        self.assertEqual(
            text_of("given a b;block 0;a = a + b;a = a + b;give a"), "given a b;block 0;e0 = a + b;a = e0;e0 = a + b;a = e0;give a")

    def test_out_of_a_loop(self):
        # Block 1 goes to 2 or 3, so that the sum is not needed at block 1; it is at the edge to block 2.
        self.assertEqual(
            text_of("given a b n;block 0;go 1;block 1;pick n 2 3;block 2;x = a + b;n = n - x;go 1;block 3;give x"),
            "given a b n;block 0;go 1;block 1;pick n 2 3;block 2;e0 = a + b;x = e0;e1 = n - x;n = e1;go 1;block 3;give x")
        # Where the loop is gone through once at least, it is needed ahead of it.
        self.assertEqual(
            text_of("given a b n;block 0;go 1;block 1;x = a + b;n = n - x;pick n 1 2;block 2;give x"),
            "given a b n;block 0;e0 = a + b;go 1;block 1;x = e0;e1 = n - x;n = e1;pick n 1 2;block 2;give x")

    def test_an_edge_with_a_block_of_its_own(self):
        self.assertEqual(
            text_of("given a b;block 0;pick a 1 2;block 1;x = a * b;go 2;block 2;pick b 3 4;block 3;y = a * b;give y;block 4;give x"),
            "given a b;block 0;pick a 1 2;block 1;e0 = a * b;x = e0;go 2;block 2;pick b 3 4;block 3;e0 = a * b;y = e0;give y;block 4;give x")
        self.assertEqual(
            text_of("given a b;block 0;pick a 1 2;block 1;x = a * b;go 3;block 2;pick b 3 4;block 3;y = a * b;give y;block 4;give x"),
            "given a b;block 0;pick a 1 2;block 1;e0 = a * b;x = e0;go 3;block 2;pick b 5 4;block 3;y = e0;give y;block 4;give x;"
            "block 5;e0 = a * b;go 3")

    def test_behind_a_change(self):
        self.assertEqual(
            text_of("given a b;block 0;pick a 1 2;block 1;a = ask;go 3;block 2;go 3;block 3;y = a * b;give y"),
            "given a b;block 0;pick a 1 2;block 1;a = ask;e0 = a * b;go 3;block 2;e0 = a * b;go 3;block 3;y = e0;give y")

    def test_block_0_with_comers(self):
        self.assertEqual(
            text_of("given a b;block 0;a = a + b;pick a 0 1;block 1;x = a + b;give x"),
            "given a b;block 0;e0 = a + b;go 1;block 1;a = e0;e0 = a + b;pick a 1 2;block 2;x = e0;give x")
        self.assertEqual(text_of("given;block 0;go 0"), "given;block 0;go 1;block 1;go 1")

    def test_blocks_that_cant_be_come_to_go(self):
        self.assertEqual(
            text_of("given a;block 0;go 2;block 1;x = a + a;go 0;block 2;give a"), "given a;block 0;go 1;block 1;give a")

    def test_new_names(self):
        self.assertEqual(
            text_of("given e0 e2;block 0;x = e0 + e2;y = e0 - e2;z = e2 * e1;give z"),
            "given e0 e2;block 0;e3 = e0 + e2;e4 = e2 * e1;e5 = e0 - e2;x = e3;y = e5;z = e4;give z")
        # A name in a block that can't be come to stands in the graph, too.
        self.assertEqual(
            text_of("given a;block 0;x = a + a;give x;block 1;give e0"), "given a;block 0;e1 = a + a;x = e1;give x")

    def test_a_row_that_never_ends_needs_nothing(self):
        self.assertEqual(
            text_of("given a b;block 0;pick a 1 2;block 1;pick b 1 2;block 2;x = a + b;give x"),
            "given a b;block 0;pick a 1 2;block 1;pick b 1 2;block 2;e0 = a + b;x = e0;give x")

    def test_a_stop_does_not_matter(self):
        self.assertEqual(
            text_of("given a b;block 0;q = a / b;x = a + b;give x"), "given a b;block 0;e0 = a + b;q = a / b;x = e0;give x")

    def test_lifting_again(self):
        found = lifted(lifted(D))
        self.assertEqual(reckonings(found, (0, 1, 3)), 1)

    def test_small_graphs_in_full(self):
        chance = random.Random(1)
        fewer = 0
        for number in range(300):
            graph = random_plain(chance, 5, 3, "abc"[:1 + number % 3], KINDS) if number % 4 else random_graph(chance, False, 4, 3)
            lifting = Lifting(self, graph)
            fewer += lifting.check_counts(7)
            if len(lifting.old[1]) < 5:
                lifting.check_at_hand()
            check_meaning(self, graph, lifting.new, chance, 2, 100)
        self.assertGreater(fewer, 10)

    def test_expressions_alone(self):
        chance = random.Random(2)
        fewer = 0
        for _ in range(300):
            graph = random_plain(chance, 4, 3, ("a", "b", "c"), ("add", "add", "times", "copy"))
            lifting = Lifting(self, graph)
            fewer += lifting.check_counts(8)
            lifting.check_at_hand()
            check_meaning(self, graph, lifting.new, chance, 2, 100)
        self.assertGreater(fewer, 10)

    def test_an_expression_that_nothing_changes(self):
        chance = random.Random(3)
        for _ in range(100):
            graph = random_plain(chance, 5, 2, ("a", "b", "c"), ("copy", "set", "show", "sub"))
            blocks = [(steps + (("add", "c", "x", "y"),) * chance.randrange(2), end) for steps, end in graph[1]]
            lifting = Lifting(self, (graph[0], tuple(blocks)))
            lifting.check_counts(7)

    def test_greater_graphs(self):
        chance = random.Random(4)
        for _ in range(40):
            graph = random_plain(chance, 20, 8, kinds=KINDS)
            try:
                lifting = Lifting(self, graph)
            except TooMany:
                continue
            check_meaning(self, graph, lifting.new, chance, 3, 1000)
            for block in range(len(lifting.old[1])):
                for one in at_hand(lifting.old, block):
                    steps = lifting.new[1][block + lifting.front][0]
                    places = [place for place, step in enumerate(steps) if told_expression(step) == one]
                    changes = [place for place, step in enumerate(steps) if step_gives(step) in one[1:]]
                    self.assertTrue(not places or changes and min(changes) < min(places))
            for one in needed(lifting.old, 0):
                self.assertIn(one, [told_expression(step) for step in lifting.new[1][0][0]])


class SizesTest(unittest.TestCase):
    def test_sixty_steps(self):
        # Each expression is kept and copied, so that 30 of them have room.
        for many in (30, 31):
            steps = ";".join(f"x = a * {number}" for number in range(many))
            graph = parse_graph(f"given a;block 0;{steps};give x")
            if many == 30:
                self.assertEqual(len(lifted(graph)[1][0][0]), 60)
            else:
                self.assertRaises(TooMany, lifted, graph)
        # One of them that is reckoned again takes no more room than before.
        steps = ";".join(["x = a + a"] * 59)
        self.assertEqual(len(lifted(parse_graph(f"given a;block 0;{steps};give x"))[1][0][0]), 60)
        self.assertRaises(TooMany, lifted, parse_graph(f"given a;block 0;{steps};x = a + a;give x"))

    def test_forty_blocks(self):
        def crossing(many):
            """Return a graph of so many blocks in which one edge needs a block of its own."""
            text = ["block 0;pick a 1 2", "block 1;x = a * b;go 3", "block 2;pick b 3 4", "block 3;y = a * b;give y"]
            text += [f"block {at};go {at + 1}" for at in range(4, many - 1)]
            return parse_graph("given a b;" + ";".join(text) + f";block {many - 1};give a")
        self.assertEqual(len(lifted(crossing(39))[1]), 40)
        self.assertRaises(TooMany, lifted, crossing(40))

    def test_a_new_block_in_front(self):
        def back(many):
            text = [f"block {at};go {at + 1}" for at in range(many - 1)]
            return parse_graph("given a;" + ";".join(text) + f";block {many - 1};go 0")
        self.assertEqual(len(lifted(back(39))[1]), 40)
        self.assertRaises(TooMany, lifted, back(40))
        blocks = back(39)[1][:38] + (((), ("go", 0)), ((), ("give", "a")))
        self.assertEqual(len(lifted((("a",), blocks))[1]), 40)


class ReckoningsTest(unittest.TestCase):
    def test_blocks_count_as_often_as_they_stand_in_the_way(self):
        self.assertEqual(reckonings(L, (0,)), 0)
        self.assertEqual(reckonings(L, (0, 1, 2, 1, 2, 1, 3)), 7)
        self.assertEqual(reckonings(L, ()), 0)
        self.assertEqual(reckonings(D, (3, 3, 3)), 3)
        self.assertEqual(reckonings(K, (2, 1)), 2)

    def test_kinds(self):
        graph = parse_graph("given a;block 0;x = a + a;x = a - a;x = a * a;x = a * 3;x = a < a;x = a / a;x = a;x = 1;x = ask;show x;give x")
        self.assertEqual(reckonings(graph, (0,)), 5)
        self.assertEqual(reckonings(ALL, (0, 2)), 5)


class ArgumentsTest(unittest.TestCase):
    def test_wrong_arguments(self):
        check_arguments(self, lifted, (L,), ("plain",))
        for graph in (ALL, single(L), single(D)):
            self.assertRaises(NotPlain, lifted, graph)


if __name__ == "__main__":
    unittest.main()
