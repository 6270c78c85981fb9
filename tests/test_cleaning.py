"""Points 1 (d), 2.7, 2.8, 3 and 18: cleaning."""

import random
import unittest

from flowkeep.cleaning import joined, jumped, swept, uncopied
from flowkeep.errors import InvalidGraph, NotPlain, NotSingle, TooMany
from flowkeep.graphs import is_graph, is_plain
from flowkeep.shaping import trimmed
from flowkeep.single import is_single, single
from flowkeep.texts import format_graph, parse_graph
from tests.arguments import NO_GRAPHS, check_arguments
from tests.plains import random_plain
from tests.programs import ALL, D, K, L, goals_of, random_graph
from tests.singles import check_meaning, random_single
from tests.slow import end_reads, reached, step_gives, step_reads, told_single

NO_SINGLES = [
    L, D, K, ALL, parse_graph("given;block 0;go 0"), parse_graph("given x;block 0;give x;block 1;give x"),
    parse_graph("given;block 0;give x"), parse_graph("given x;block 0;x = x;give x")]


def text_of(function, text):
    """Return the text of what the function makes of the graph with this text."""
    return format_graph(function(parse_graph(text)))


def lots(many, start=0):
    """Return so many steps that give unlike names."""
    return ";".join(f"m{at} = ask" for at in range(start, start + many))


def read_names(step):
    return [name for _, name in step[2]] if step[0] == "choose" else step_reads(step)


def some_single(chance, number):
    """Return a graph in single form."""
    return random_single(chance, 6, 4) if number % 2 else single(random_plain(chance, 6, 4))


def told_swept(graph):
    """Return the graph without the steps that are not needed, found by adding steps until nothing changes."""
    words = {step[1]: step[2] for steps, _ in graph[1] for step in steps if step[0] == "set"}
    needed = set()
    while True:
        read = {name for steps, end in graph[1] for name in end_reads(end)}
        read |= {name for steps, _ in graph[1] for step in steps if step in needed for name in read_names(step)}
        more = {
            step for steps, _ in graph[1] for step in steps if step[0] in ("write", "show", "ask") or step_gives(step) in read
            or step[0] == "div" and words.get(step[3], 0) == 0}
        if more == needed:
            return (graph[0], tuple((tuple(step for step in steps if step in needed), end) for steps, end in graph[1]))
        needed = more


class ExamplesTest(unittest.TestCase):
    def test_examples(self):
        self.assertEqual(
            text_of(joined, "given;block 0;x = 1;go 1;block 1;show x;give x"), "given;block 0;x = 1;show x;give x")
        self.assertEqual(
            text_of(jumped, "given;block 0;go 1;block 1;go 2;block 2;give x"), "given;block 0;go 1;block 1;give x")


class SweptTest(unittest.TestCase):
    def test_kinds_of_steps(self):
        text = "given a;block 0;x = 5;z = 0;{};give a"
        kept = {"cell 1 = a", "show a", "y = ask", "y = x / z", "y = x / a", "z2 = 1;w = z2;y = x / w", "cell 1 = x"}
        gone = {"y = x", "y = 7", "y = x + a", "y = x - a", "y = x * a", "y = x * 3", "y = x < a", "y = cell 2", "y = a / x"}
        for step in sorted(kept):
            found = text_of(swept, text.format(step))
            self.assertIn(step.split(";")[-1], found, step)
            for name, given in (("x", "x = 5"), ("z", "z = 0")):
                self.assertEqual(given in found, name in step.replace("z2", "").split(" = ")[-1].split(" "), step)
        for step in sorted(gone):
            self.assertEqual(text_of(swept, text.format(step)), "given a;block 0;give a", step)

    def test_steps_that_give_what_is_read(self):
        self.assertEqual(
            text_of(swept, "given a b;block 0;x = a + b;y = x * x;z = y - x;w = z;pick y 1 2;block 1;u = x;give u;block 2;v = y;show v;give b"),
            "given a b;block 0;x = a + b;y = x * x;pick y 1 2;block 1;u = x;give u;block 2;v = y;show v;give b")

    def test_rings_of_choices_that_nothing_reads(self):
        self.assertEqual(
            text_of(swept, "given a b;block 0;go 1;block 1;x = choose 0 a 1 z;y = choose 0 b 1 y;z = x + y;pick a 1 2;block 2;give b"),
            "given a b;block 0;go 1;block 1;pick a 1 2;block 2;give b")

    def test_rings_of_choices_of_which_one_is_read(self):
        text = "given a b;block 0;go 1;block 1;x = choose 0 a 1 z;y = choose 0 b 1 y;z = x + y;pick a 1 2;block 2;give x"
        self.assertEqual(text_of(swept, text), text)

    def test_choices_need_the_names_of_all_pairs(self):
        self.assertEqual(
            text_of(swept, "given a;block 0;x = 1;w = 2;pick a 1 2;block 1;go 3;block 2;y = 2;w2 = 1;go 3;block 3;z = choose 1 x 2 y;v = choose 1 w 2 w2;give z"),
            "given a;block 0;x = 1;pick a 1 2;block 1;go 3;block 2;y = 2;go 3;block 3;z = choose 1 x 2 y;give z")

    def test_a_divisor_that_is_0_on_one_way(self):
        self.assertEqual(
            text_of(swept, "given a;block 0;x = 1;z = 2;pick a 1 1;block 1;c = choose 0 z;q = a / c;r = a / z;give a"),
            "given a;block 0;z = 2;pick a 1 1;block 1;c = choose 0 z;q = a / c;give a")

    def test_random_graphs(self):
        chance = random.Random(1)
        changed = 0
        for number in range(300):
            graph = some_single(chance, number)
            found = swept(graph)
            self.assertEqual(found, told_swept(graph))
            self.assertIs(is_single(found), True)
            self.assertEqual(swept(found), found)
            check_meaning(self, graph, found, chance, 3, 150)
            changed += found != graph
        self.assertGreater(changed, 100)


class UncopiedTest(unittest.TestCase):
    def test_copies(self):
        self.assertEqual(
            text_of(uncopied, "given a;block 0;x = a;y = x;z = y + x;show y;cell 1 = x;pick y 1 2;block 1;give x;block 2;w = z;give w"),
            "given a;block 0;x = a;y = a;z = a + a;show a;cell 1 = a;pick a 1 2;block 1;give a;block 2;w = z;give z")

    def test_choices_of_one_name(self):
        self.assertEqual(
            text_of(uncopied, "given a b;block 0;go 1;block 1;x = choose 0 a 1 x;y = choose 0 b 1 a;show x;pick y 1 2;block 2;give x"),
            "given a b;block 0;go 1;block 1;x = choose 0 a 1 a;y = choose 0 b 1 a;show a;pick y 1 2;block 2;give a")

    def test_choices_of_one_name_behind_copies(self):
        self.assertEqual(
            text_of(uncopied, "given a;block 0;c = a;pick a 1 2;block 1;d = c;go 3;block 2;go 3;block 3;x = choose 1 d 2 a;y = x;pick y 4 4;block 4;z = choose 3 y;give z"),
            "given a;block 0;c = a;pick a 1 2;block 1;d = a;go 3;block 2;go 3;block 3;x = choose 1 a 2 a;y = a;pick a 4 4;block 4;z = choose 3 a;give a")

    def test_choices_of_choices_of_one_name(self):
        # Only once x is found to be a, y has one name alone.
        self.assertEqual(
            text_of(uncopied, "given a;block 0;go 1;block 1;y = choose 0 a 2 x;go 2;block 2;x = choose 1 y 2 x;pick x 1 2"),
            "given a;block 0;go 1;block 1;y = choose 0 a 2 a;go 2;block 2;x = choose 1 a 2 a;pick a 1 2")

    def test_what_is_no_copy_stays(self):
        text = "given a b;block 0;x = 1;y = a * 1;go 1;block 1;z = choose 0 a 1 b;w = choose 0 x 1 y;pick z 1 2;block 2;give w"
        self.assertEqual(text_of(uncopied, text), text)

    def test_two_choices_that_read_one_another_stay(self):
        text = "given a;block 0;go 1;block 1;x = choose 0 a 1 y;y = choose 0 a 1 x;show x;pick y 1 2;block 2;give x"
        self.assertEqual(text_of(uncopied, text), text)

    def check_uncopied(self, graph, chance):
        found = uncopied(graph)
        self.assertIs(is_single(found), True)
        if len(found[1]) < 6:
            self.assertIs(told_single(found), True)
        barred = set()
        for block, other in zip(graph[1], found[1]):
            self.assertEqual(block[1][0], other[1][0])
            self.assertEqual(goals_of(block[1]), goals_of(other[1]))
            self.assertEqual(len(block[0]), len(other[0]))
            for step, its in zip(block[0], other[0]):
                self.assertEqual((step[0], step_gives(step)), (its[0], step_gives(its)))
                self.assertEqual([part for part in step if isinstance(part, int)], [part for part in its if isinstance(part, int)])
                if its[0] == "copy" or its[0] == "choose" and len(set(read_names(its)) - {its[1]}) == 1:
                    barred.add(its[1])
        for steps, end in found[1]:
            for step in steps:
                self.assertEqual(barred & set(read_names(step)), set())
            self.assertEqual(barred & set(end_reads(end)), set())
        check_meaning(self, graph, found, chance, 3, 150)
        self.assertEqual(uncopied(found), found)
        return found

    def test_random_graphs(self):
        chance = random.Random(2)
        changed = 0
        for number in range(300):
            graph = some_single(chance, number)
            changed += self.check_uncopied(graph, chance) != graph
        for _ in range(200):
            self.check_uncopied(random_single(chance, 6, 2, ("copy", "copy", "copy", "add")), chance)
        self.assertGreater(changed, 100)

    def test_long_rows_of_choices(self):
        blocks = ["block 0;x0 = a;pick a 39 39"] + [
            f"block {at};x{at} = choose {at + 1} x{at + 1};pick a {at - 1 or 1} {at - 1 or 1}" for at in range(2, 39)]
        text = "given a;" + ";".join(
            [blocks[0], "block 1;x1 = choose 1 x1 2 x2;pick x1 1 1"] + blocks[1:] + ["block 39;x39 = choose 0 x0;pick a 38 38"])
        found = uncopied(parse_graph(text))
        self.assertEqual({name for steps, _ in found[1] for step in steps for name in read_names(step)}, {"a"})


class JoinedTest(unittest.TestCase):
    def test_rows_of_blocks(self):
        self.assertEqual(
            text_of(joined, "given a;block 0;x = 1;go 3;block 1;show x;give x;block 2;x = x + a;go 1;block 3;x = x + x;go 2"),
            "given a;block 0;x = 1;x = x + x;x = x + a;show x;give x")

    def test_other_comers_keep_blocks_apart(self):
        text = "given a;block 0;go 1;block 1;x = x + a;pick x 1 2;block 2;give x"
        self.assertEqual(text_of(joined, text), text)
        text = "given a;block 0;pick a 1 2;block 1;go 2;block 2;give a"
        self.assertEqual(text_of(joined, text), text)

    def test_picks_stay(self):
        text = "given a;block 0;pick a 1 1;block 1;give a"
        self.assertEqual(text_of(joined, text), text)
        text = "given a;block 0;pick a 1 2;block 1;give a;block 2;give a"
        self.assertEqual(text_of(joined, text), text)

    def test_comers_that_cant_be_come_to_do_not_count(self):
        self.assertEqual(
            text_of(joined, "given a;block 0;go 1;block 1;show a;give a;block 2;go 1;block 3;pick a 1 2"), "given a;block 0;show a;give a")

    def test_block_0_is_never_joined_behind(self):
        self.assertEqual(text_of(joined, "given;block 0;go 0"), "given;block 0;go 0")
        self.assertEqual(text_of(joined, "given a;block 0;x = a;go 1;block 1;y = x;go 0"), "given a;block 0;x = a;y = x;go 0")
        self.assertEqual(
            text_of(joined, "given a;block 0;pick a 1 2;block 1;show a;go 0;block 2;give a"),
            "given a;block 0;pick a 1 2;block 1;show a;go 0;block 2;give a")

    def test_choices_become_copies(self):
        self.assertEqual(
            text_of(joined, "given a b;block 0;c = 1;go 1;block 1;x = choose 0 a;y = choose 0 c;z = x + y;pick z 2 3;block 2;w = choose 1 z;give w;block 3;give y"),
            "given a b;block 0;c = 1;x = a;y = c;z = x + y;pick z 1 2;block 1;w = choose 0 z;give w;block 2;give y")

    def test_comers_of_choices_are_numbered_anew(self):
        self.assertEqual(
            text_of(
                joined, "given a b;block 0;pick a 4 2;block 1;z = choose 3 x 5 y;give z;block 2;x = 1;go 3;block 3;go 1;"
                "block 4;y = 2;go 5;block 5;w = choose 4 y;go 1"),
            "given a b;block 0;pick a 3 2;block 1;z = choose 2 x 3 y;give z;block 2;x = 1;go 1;block 3;y = 2;w = y;go 1")
        # The last block of a row may have another place in the sequence than the first one.
        self.assertEqual(
            text_of(
                joined, "given a b;block 0;pick a 1 2;block 1;x = 1;go 4;block 2;y = 2;go 3;block 3;z = choose 2 y 4 x;give z;"
                "block 4;w = choose 1 x;go 3"),
            "given a b;block 0;pick a 1 2;block 1;x = 1;w = x;go 3;block 2;y = 2;go 3;block 3;z = choose 1 x 2 y;give z")

    def test_a_loop(self):
        self.assertEqual(
            text_of(joined, "given a;block 0;go 1;block 1;go 2;block 2;a = a + a;go 3;block 3;pick a 1 4;block 4;give a"),
            "given a;block 0;go 1;block 1;a = a + a;pick a 1 2;block 2;give a")

    def check_joined(self, graph, chance):
        found = joined(graph)
        self.assertIs(is_graph(found), True)
        if is_plain(graph):
            self.assertIs(is_plain(found), True)
        if is_single(graph):
            self.assertIs(is_single(found), True)
        blocks = found[1]
        self.assertEqual(reached(found, [0]), set(range(len(blocks))))
        for at, (_, end) in enumerate(blocks):
            if end[0] == "go" and end[1] != 0:
                comers = [comer for comer, (_, other) in enumerate(blocks) if end[1] in goals_of(other)]
                self.assertNotEqual(comers, [at])
        whole = trimmed(graph)
        self.assertEqual(
            sorted(repr(step) for steps, _ in blocks for step in steps if step[0] not in ("choose", "copy")),
            sorted(repr(step) for steps, _ in whole[1] for step in steps if step[0] not in ("choose", "copy")))
        self.assertEqual(sum(len(steps) for steps, _ in blocks), sum(len(steps) for steps, _ in whole[1]))
        check_meaning(self, graph, found, chance, 3, 150)
        self.assertEqual(joined(found), found)
        return found

    def test_random_graphs(self):
        chance = random.Random(3)
        fewer = 0
        for number in range(400):
            graph = (random_single, random_plain)[number % 2](chance, 7, 3) if number % 5 else random_graph(chance, False, 7, 3)
            fewer += len(self.check_joined(graph, chance)[1]) < len(trimmed(graph)[1])
        self.assertGreater(fewer, 50)

    def test_sixty_steps_and_one_more(self):
        for many in (30, 31):
            graph = parse_graph(f"given a;block 0;{lots(30)};go 1;block 1;{lots(many, 100)};give a")
            if many == 30:
                self.assertEqual(len(joined(graph)[1][0][0]), 60)
            else:
                self.assertRaises(TooMany, joined, graph)
        # Behind a pick it is no row.
        self.assertEqual(len(joined(parse_graph(f"given a;block 0;{lots(30)};pick a 1 1;block 1;{lots(31, 100)};give a"))[1]), 2)
        graph = parse_graph(f"given a;block 0;give a;block 1;{lots(30)};go 2;block 2;{lots(31, 100)};give a")
        self.assertEqual(len(joined(graph)[1]), 1)

    def test_graphs_that_are_neither(self):
        check_arguments(self, joined, (L,), ("graph",))
        for graph in (ALL, parse_graph("given x;block 0;go 1;block 1;x = choose 0 x;give x"), parse_graph("given x;block 0;go 1;block 1;y = choose 0 z;give y")):
            self.assertRaises(NotSingle, joined, graph)
        for graph in (L, D, K, single(L), single(D)):
            joined(graph)


class JumpedTest(unittest.TestCase):
    def test_other_blocks_without_steps_stay(self):
        text = "given a;block 0;pick a 1 2;block 1;pick a 2 2;block 2;give a"
        self.assertEqual(text_of(jumped, text), text)

    def test_goals_of_picks(self):
        self.assertEqual(
            text_of(jumped, "given a;block 0;pick a 1 2;block 1;go 3;block 2;go 1;block 3;show a;give a"),
            "given a;block 0;pick a 1 1;block 1;show a;give a")

    def test_rings(self):
        chance = random.Random(4)
        rings = [
            "given;block 0;go 0", "given;block 0;go 1;block 1;go 1", "given;block 0;go 1;block 1;go 0", "given;block 0;show x;go 1;block 1;go 2;block 2;go 1",
            "given a;block 0;pick a 1 2;block 1;go 3;block 2;go 4;block 3;go 5;block 4;go 3;block 5;go 4",
            "given a;block 0;show a;pick a 1 4;block 1;go 2;block 2;go 3;block 3;go 2;block 4;go 5;block 5;go 0", "given;block 0;go 1;block 1;go 2;block 2;go 0",
        ]
        for text in rings:
            self.check_jumped(parse_graph(text), chance)

    def test_block_0_without_steps(self):
        chance = random.Random(5)
        self.check_jumped(parse_graph("given a;block 0;go 2;block 1;go 0;block 2;a = a + a;pick a 1 0"), chance)
        self.check_jumped(parse_graph("given a;block 0;a = a + a;pick a 1 2;block 1;go 0;block 2;go 1"), chance)

    def check_jumped(self, graph, chance):
        found = jumped(graph)
        self.assertIs(is_plain(found), True)
        self.assertEqual(found[0], graph[0])
        blocks = found[1]
        self.assertEqual(reached(found, [0]), set(range(len(blocks))))
        idle = {at: end[1] for at, (steps, end) in enumerate(blocks) if not steps and end[0] == "go" and end[1] != at}
        for at, goal in idle.items():
            row = [at]
            while row[-1] in idle and len(row) < 50:
                row.append(idle[row[-1]])
            self.assertTrue(at == 0 or goal == 0 or at in row[1:], (graph, found))
        whole = trimmed(graph)
        self.assertEqual(
            sorted(repr((steps, end[0])) for steps, end in blocks if steps), sorted(repr((steps, end[0])) for steps, end in whole[1] if steps))
        self.assertLessEqual(len(blocks), len(whole[1]))
        check_meaning(self, graph, found, chance, 3, 150)
        self.assertEqual(jumped(found), found)
        return found

    def test_random_graphs(self):
        chance = random.Random(6)
        fewer = 0
        for number in range(400):
            graph = random_plain(chance, 8, 1) if number % 3 else random_graph(chance, False, 7, 1)
            fewer += len(self.check_jumped(graph, chance)[1]) < len(trimmed(graph)[1])
        self.assertGreater(fewer, 50)

    def test_a_long_row(self):
        blocks = tuple(((), ("go", at + 1)) for at in range(39))
        self.assertEqual(jumped((("a",), blocks + (((), ("give", "a")),))), (("a",), (((), ("go", 1)), ((), ("give", "a")))))


class ArgumentsTest(unittest.TestCase):
    def test_wrong_arguments(self):
        check_arguments(self, swept, (single(L),), ("single",))
        check_arguments(self, uncopied, (single(L),), ("single",))
        check_arguments(self, jumped, (L,), ("plain",))
        for function in (swept, uncopied):
            for graph in NO_SINGLES:
                self.assertRaises(NotSingle, function, graph)
        for graph in (ALL, single(L), single(D)):
            self.assertRaises(NotPlain, jumped, graph)
        for function in (swept, uncopied, joined, jumped):
            for graph in NO_GRAPHS:
                self.assertRaises(InvalidGraph, function, graph)


if __name__ == "__main__":
    unittest.main()
