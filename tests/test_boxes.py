"""Points 1 (d), 1 (f), 2.7, 2.8, 3 and 20: boxes."""

import random
import unittest

from flowkeep.boxes import boxes, in_boxes, most_at_once, together
from flowkeep.errors import InvalidGraph, NotSingle, TooMany
from flowkeep.graphs import is_plain, names
from flowkeep.running import run
from flowkeep.single import is_single, single
from flowkeep.texts import parse_graph
from tests.arguments import NO_GRAPHS, check_arguments
from tests.plains import random_plain
from tests.programs import ALL, D, K, L, goals_of
from tests.singles import check_meaning, random_single
from tests.slow import end_reads, step_gives, step_reads

KINDS = ("add", "sub", "mul", "copy", "set", "show", "ask", "less", "div", "write", "read", "times")


def choices_of(graph, block):
    return [step for step in graph[1][block][0] if step[0] == "choose"]


def is_alive(graph, block, place, name):
    """Return whether the name is read, going on from ahead of the step at the place, ahead of being given again."""
    seen, waiting = set(), [(block, place)]
    while waiting:
        at = waiting.pop()
        if at in seen:
            continue
        seen.add(at)
        steps, end = graph[1][at[0]]
        if at[1] < len(steps):
            if name in step_reads(steps[at[1]]):
                return True
            if step_gives(steps[at[1]]) != name:
                waiting.append((at[0], at[1] + 1))
            continue
        if name in end_reads(end):
            return True
        for goal in goals_of(end):
            choices = choices_of(graph, goal)
            if any(dict(step[2])[at[0]] == name for step in choices):
                return True
            if all(step[1] != name for step in choices):
                waiting.append((goal, len(choices)))
    return False


def told_there(graph):
    """Return the list of the sets of names that are there at once, for all places."""
    given = list(graph[0]) + [step_gives(step) for steps, _ in graph[1] for step in steps if step_gives(step)]
    found = []
    for block, (steps, _) in enumerate(graph[1]):
        choices = choices_of(graph, block)
        new = [step[1] for step in choices] + (list(graph[0]) if block == 0 else [])
        for place in range(len(choices), len(steps) + 1):
            found.append({name for name in given if is_alive(graph, block, place, name)} | set(new))
            new = [step_gives(steps[place])] if place < len(steps) and step_gives(steps[place]) else []
    return found


def some_single(chance, number, most_blocks=5, most_steps=4):
    if number % 2:
        return random_single(chance, most_blocks, most_steps, KINDS)
    return single(random_plain(chance, most_blocks, most_steps, kinds=KINDS))


def pairs_of(text):
    return " ".join("".join(pair) for pair in together(parse_graph(text)))


class ExamplesTest(unittest.TestCase):
    def test_examples(self):
        self.assertEqual(most_at_once(single(L)), 5)


class ThereTest(unittest.TestCase):
    def test_inputs_are_there_at_once(self):
        self.assertEqual(pairs_of("given a b c;block 0;x = 1;give x"), "ab ac bc")
        self.assertEqual(most_at_once(parse_graph("given a b c d;block 0;give a")), 4)

    def test_a_name_that_is_never_read(self):
        self.assertEqual(pairs_of("given a;block 0;x = 1;y = 2;give a"), "ax ay")
        self.assertEqual(pairs_of("given a;block 0;x = 1;y = 2;give y"), "")
        self.assertEqual(boxes(parse_graph("given a;block 0;x = 1;y = 2;give y")), (("a", 0), ("x", 0), ("y", 0)))

    def test_steps_that_read(self):
        self.assertEqual(pairs_of("given a b;block 0;x = a + b;y = x - b;give y"), "ab bx")
        self.assertEqual(pairs_of("given a b;block 0;x = a + b;cell 1 = b;show a;give x"), "ab ax bx")
        self.assertEqual(pairs_of("given a b;block 0;x = 1;pick b 1 2;block 1;give x;block 2;give a"), "ab ax bx")

    def test_choices(self):
        text = "given a b;block 0;go 1;block 1;x = choose 0 a 1 y;y = choose 0 b 1 x;{}pick a 1 2;block 2;give b"
        self.assertEqual(pairs_of(text.format("")), "ab ax ay bx by xy")
        # Names of pairs are read where the block is come to, and are not alive in it for that.
        self.assertEqual(pairs_of("given a b;block 0;pick a 1 2;block 1;x = choose 0 b;give x;block 2;y = choose 0 a;give y"), "ab")
        self.assertEqual(pairs_of("given a;block 0;pick a 1 1;block 1;x = choose 0 a;y = choose 0 a;give a"), "ax ay xy")

    def test_choices_that_are_never_read(self):
        text = "given a;block 0;go 1;block 1;x = choose 0 a 1 a;z = choose 0 a 1 a;pick a 1 2;block 2;give a"
        self.assertEqual(pairs_of(text), "ax az xz")
        self.assertEqual(most_at_once(parse_graph(text)), 3)

    def test_alive_on_the_way_back_to_a_loop(self):
        self.assertEqual(
            pairs_of("given a n;block 0;k = 1;go 1;block 1;i = choose 0 n 2 j;pick i 2 3;block 2;j = i - k;go 1;block 3;give a"), "ai aj ak an ik jk kn")

    def test_no_names(self):
        graph = parse_graph("given;block 0;go 1;block 1;go 1")
        self.assertEqual((most_at_once(graph), together(graph), boxes(graph)), (0, (), ()))
        self.assertEqual(in_boxes(graph), graph)

    def test_random_graphs(self):
        chance = random.Random(1)
        for number in range(250):
            graph = some_single(chance, number)
            there = told_there(graph)
            self.assertEqual(most_at_once(graph), max(len(found) for found in there))
            self.assertEqual(together(graph), tuple(sorted({(one, other) for found in there for one in found for other in found if one < other})))


class BoxesTest(unittest.TestCase):
    def check_boxes(self, graph):
        found = boxes(graph)
        given = list(graph[0]) + [step_gives(step) for steps, _ in graph[1] for step in steps if step_gives(step)]
        self.assertEqual([name for name, _ in found], sorted(given))
        most = most_at_once(graph)
        for _, box in found:
            self.assertIs(type(box), int)
            self.assertTrue(0 <= box < most)
        box = dict(found)
        for one, other in together(graph):
            self.assertNotEqual(box[one], box[other])

    def test_random_graphs(self):
        chance = random.Random(2)
        for number in range(400):
            self.check_boxes(some_single(chance, number, 8, 5))
        for _ in range(100):
            self.check_boxes(random_single(chance, 8, 2, ("copy", "add")))

    def test_great_graphs(self):
        chance = random.Random(3)
        for _ in range(3):
            graph = single(random_plain(chance, 38, 40, ("a", "b", "c", "d", "e", "f", "g", "h"), KINDS))
            self.check_boxes(graph)
        text = ";".join(f"m{at} = ask" for at in range(60))
        shows = ";".join(f"show m{at}" for at in range(60))
        graph = parse_graph(f"given;block 0;{text};go 1;block 1;{shows};give m0")
        self.assertEqual(most_at_once(graph), 60)
        self.assertEqual(len({box for _, box in boxes(graph)}), 60)
        self.check_boxes(graph)

    def test_more_boxes_than_names_at_once_are_not_used(self):
        # A row of names, each one there with the next one alone.
        steps = ["x0 = ask", "x1 = ask"] + [f"x{at} = x{at - 2} + x{at - 1}" for at in range(2, 50)]
        graph = parse_graph("given;block 0;" + ";".join(steps) + ";give x49")
        self.assertEqual(most_at_once(graph), 2)
        self.assertEqual({box for _, box in boxes(graph)}, {0, 1})


class InBoxesTest(unittest.TestCase):
    def check(self, graph, chance, times=4):
        try:
            found = in_boxes(graph)
        except TooMany:
            return None
        self.assertIs(is_plain(found), True)
        self.assertEqual(len(found[0]), len(graph[0]))
        self.assertLessEqual(len(names(found)), most_at_once(graph) + 1)
        check_meaning(self, graph, found, chance, times, 200)
        return found

    def test_examples(self):
        chance = random.Random(4)
        for graph in (L, D, K):
            found = self.check(single(graph), chance)
            self.assertLessEqual(len(names(found)), 6)

    def test_choices_that_swap(self):
        graph = parse_graph(
            "given a b n;block 0;k = 1;go 1;block 1;x = choose 0 a 2 y;y = choose 0 b 2 x;i = choose 0 n 2 j;pick i 2 3;"
            "block 2;j = i - k;go 1;block 3;show x;give y")
        self.assertIs(is_single(graph), True)
        found = self.check(graph, random.Random(5))
        for many in range(5):
            self.assertEqual(run(found, (7, 8, many), (), 1000), run(graph, (7, 8, many), (), 1000))

    def test_choices_around_a_ring_without_a_free_box(self):
        graph = parse_graph(
            "given a b c;block 0;go 1;block 1;x = choose 0 a 1 y;y = choose 0 b 1 z;z = choose 0 c 1 x;show x;show y;pick z 1 2;block 2;give z")
        found = self.check(graph, random.Random(6))
        self.assertLessEqual(len(names(found)), 4)
        self.assertEqual(run(found, (1, 2, 0), (), 100), run(graph, (1, 2, 0), (), 100))

    def test_names_that_are_never_read(self):
        graph = parse_graph("given a b;block 0;x = ask;y = ask;show b;z = a / b;w = 5;give a")
        found = self.check(graph, random.Random(7))
        self.assertEqual(len(names(found)), 3)

    def test_random_graphs(self):
        chance = random.Random(8)
        made = 0
        for number in range(400):
            made += self.check(some_single(chance, number, 6, 4), chance) is not None
        self.assertGreater(made, 350)

    def test_graphs_with_many_choices(self):
        chance = random.Random(9)
        for _ in range(200):
            self.check(random_single(chance, 5, 1, ("copy", "show", "add", "ask")), chance)

    def test_too_many_blocks(self):
        # Each block but the first ones is come to over two edges that need copies in blocks of their own.
        text = ["block 0;z = 0;y = 1;pick a 1 2", "block 1;pick b 3 3", "block 2;pick b 3 3", "block 3;x3 = choose 1 z 2 y;pick x3 4 5"]
        at = 4
        while at < 38:
            text += [f"block {at};pick a {at + 2} {at + 3}", f"block {at + 1};pick b {at + 2} {at + 3}"]
            text += [f"block {at + 2};x{at + 2} = choose {at} z {at + 1} y;pick x{at + 2} {at + 4} {at + 5}"]
            text += [f"block {at + 3};x{at + 3} = choose {at} z {at + 1} a;show x{at + 3};give b"]
            at += 4
            if at >= 36:
                break
        text += [f"block {at};give z", f"block {at + 1};give y"]
        graph = parse_graph("given a b;" + ";".join(text))
        self.assertIs(is_single(graph), True)
        self.assertRaises(TooMany, in_boxes, graph)


class ArgumentsTest(unittest.TestCase):
    def test_wrong_arguments(self):
        for function in (most_at_once, together, boxes, in_boxes):
            check_arguments(self, function, (single(L),), ("single",))
            for graph in NO_GRAPHS:
                self.assertRaises(InvalidGraph, function, graph)
            for graph in (L, D, K, ALL, parse_graph("given;block 0;go 0"), parse_graph("given x;block 0;give x;block 1;give x")):
                self.assertRaises(NotSingle, function, graph)


if __name__ == "__main__":
    unittest.main()
