"""Points 1, 3, 12, 16 and 17: counted loops."""

import random
import unittest

from flowkeep.errors import InvalidBlock, InvalidGraph, NoLoop, NotCounted, NotSingle
from flowkeep.loops import heads
from flowkeep.rounds import is_counted, rounds
from flowkeep.running import visits
from flowkeep.single import is_single, single
from flowkeep.texts import parse_graph
from tests.arguments import NO_BLOCKS, NO_GRAPHS, check_arguments
from tests.programs import ALL, D, K, L
from tests.singles import random_single

LOOP = (
    "given a;block 0;i = {first};k = {more};n = {bound};go 1;block 1;x = choose 0 i 2 y;c = x < n;pick c {goals};"
    "block 2;y = {sum};go 1;block 3;give x")
PLAIN = {"first": 0, "more": 1, "bound": 5, "goals": "2 3", "sum": "x + k"}


def loop(text=LOOP, **changed):
    """Return the graph of a loop, some of its parts changed."""
    graph = parse_graph(text.format(**{**PLAIN, **changed}))
    assert is_single(graph), text
    return graph


def told_rounds(first, more, bound, inside_if_less):
    """Return how often the pick goes on in the loop; a count that comes to an earlier one goes round for ever."""
    seen, count = set(), first
    while (count < bound) is inside_if_less:
        if count in seen:
            return None
        seen.add(count)
        count = (count + more) & 0xFFFF
    return len(seen)


class ExamplesTest(unittest.TestCase):
    def test_examples(self):
        self.assertIs(is_counted(single(K), 1), True)
        self.assertIs(is_counted(single(L), 1), False)
        self.assertEqual(rounds(single(K), 1), 3)
        self.assertRaises(NotCounted, rounds, single(L), 1)


class RoundsTest(unittest.TestCase):
    def check(self, expected, **changed):
        graph = loop(**changed)
        self.assertIs(is_counted(graph, 1), True)
        self.assertEqual(rounds(graph, 1), expected, changed)

    def test_up_and_down(self):
        self.check(5)
        self.check(3, more=2)
        self.check(1, more=100)
        self.check(2, first=3)
        self.check(0, first=5)
        self.check(0, first=6)
        self.check(0, bound=0)
        # Less than 5 at first, and behind 0 comes 65535.
        self.check(4, first=3, more=65535)
        self.check(1, more=65535)
        self.check(65535, more=1, bound=65535)
        self.check(None, more=2, bound=65535)
        self.check(32767, more=2, bound=65534)
        self.check(21845, more=3, bound=65535)

    def test_the_other_goal(self):
        self.check(0, goals="3 2")
        self.check(6, goals="3 2", first=10, more=65535)
        self.check(65530, goals="3 2", first=6)
        self.check(65531, goals="3 2", first=5)
        self.check(65526, goals="3 2", first=10)
        self.check(None, goals="3 2", bound=0)
        self.check(3, goals="3 2", first=11, more=65533, bound=3)

    def test_counts_that_go_round(self):
        self.check(None, more=0)
        self.check(None, goals="3 2", first=7, more=0)
        self.check(0, first=7, more=0)
        self.check(None, first=0, more=32768, bound=65535)
        self.check(None, first=2, more=4, bound=2, goals="3 2")
        self.check(1, first=65535, more=1, bound=1, goals="3 2")

    def test_the_count_as_second_name_of_the_add(self):
        self.check(5, sum="k + x")
        self.check(3, sum="k + x", more=2)

    def test_against_plain_counting(self):
        chance = random.Random(1)
        words = (0, 1, 2, 3, 5, 255, 256, 32767, 32768, 65534, 65535)
        for _ in range(150):
            first, more, bound = (chance.choice(words + (chance.randrange(65536),)) for _ in range(3))
            goals = chance.choice(("2 3", "3 2"))
            self.check(
                told_rounds(first, more, bound, goals == "2 3"), first=first, more=more, bound=bound, goals=goals,
                sum=chance.choice(("x + k", "k + x")))

    def test_against_runs(self):
        chance = random.Random(2)
        for _ in range(60):
            graph = loop(
                first=chance.choice((0, 3, 65530, 40)), more=chance.choice((0, 1, 2, 7, 65535, 65533)), bound=chance.choice((0, 5, 41, 65535)),
                goals=chance.choice(("2 3", "3 2")))
            entered = visits(graph, (0,), (), 20000)
            many = rounds(graph, 1)
            if many is None or many > 3000:
                self.assertGreater(entered.count(2), 3000)
            else:
                self.assertEqual(entered.count(2), many)

    def test_a_loop_of_its_head_alone(self):
        text = "given a;block 0;i = 2;k = 3;n = 20;go 1;block 1;x = choose 0 i 1 y;y = x + k;c = x < n;pick c {};block 2;give y"
        self.assertEqual(rounds(parse_graph(text.format("1 2")), 1), 6)
        self.assertEqual(rounds(parse_graph(text.format("2 1")), 1), 0)

    def test_a_loop_that_is_entered_again_and_again(self):
        graph = parse_graph(
            "given a;block 0;i = 0;k = 1;n = 4;m = 3;go 1;block 1;p = choose 0 i 5 q;d = p < m;pick d 2 6;block 2;go 3;"
            "block 3;x = choose 2 i 4 y;c = x < n;pick c 4 5;block 4;y = x + k;go 3;block 5;q = p + k;go 1;block 6;give p")
        self.assertIs(is_single(graph), True)
        self.assertEqual([rounds(graph, head) for head in (1, 3)], [3, 4])
        entered = visits(graph, (0,), (), 1000)
        self.assertEqual((entered.count(2), entered.count(4)), (3, 12))

    def test_the_add_in_an_inner_block(self):
        text = (
            "given a;block 0;i = 0;k = 1;n = 9;go 1;block 1;x = choose 0 i 4 y;c = x < n;pick c 2 5;block 2;y = x + k;pick a 3 4;"
            "block 3;show y;go 4;block 4;go 1;block 5;give x")
        self.assertEqual(rounds(parse_graph(text), 1), 9)

    def test_stops_are_left_aside(self):
        text = LOOP.replace("block 2;", "block 2;q = x / a;")
        self.assertEqual(rounds(loop(text), 1), 5)

    def test_loops_in_blocks_that_are_not_entered(self):
        text = (
            "given a;block 0;i = 0;k = 2;n = 9;pick k 5 1;block 1;go 2;block 2;x = choose 1 i 3 y;c = x < n;pick c 3 4;"
            "block 3;y = x + k;go 2;block 4;give x;block 5;give a")
        self.assertEqual(rounds(parse_graph(text), 2), 5)

    def test_constants_that_only_the_ways_tell(self):
        text = (
            "given a;block 0;i = 0;k = 1;n = 6;o = 6;pick k 1 2;block 1;go 3;block 2;go 3;block 3;m = choose 1 n 2 a;go 4;"
            "block 4;x = choose 3 i 5 y;c = x < m;pick c 5 6;block 5;y = x + k;go 4;block 6;give x")
        self.assertEqual(rounds(parse_graph(text), 4), 6)
        self.assertIs(is_counted(parse_graph(text.replace("pick k 1 2", "pick a 1 2")), 4), False)
        self.assertIs(is_counted(parse_graph(text.replace("pick k 1 2", "pick a 1 2").replace("2 a;go 4", "2 o;go 4")), 4), True)


class NotCountedTest(unittest.TestCase):
    def check(self, text, head=1, **changed):
        graph = loop(text, **changed)
        self.assertIn(head, heads(graph))
        self.assertIs(is_counted(graph, head), False, text)
        self.assertRaises(NotCounted, rounds, graph, head)

    def test_several_values(self):
        for part in ("first", "more", "bound"):
            self.check(LOOP, **{part: "a"})
            self.check(LOOP, **{part: "ask"})

    def test_another_sum(self):
        for text in ("x - k", "k - x", "x * k", "x * 3", "x < k", "x / k", "k + k", "x", "7", "ask", "cell 1", "i + k", "n + k"):
            self.check(LOOP, sum=text)
        self.check(LOOP.replace("y = {sum}", "z = x + k;y = z"))
        self.check(LOOP.replace("y = {sum}", "z = x + k;y = z + k"))

    def test_the_count_added_to_itself(self):
        self.check(LOOP, sum="x + x")

    def test_an_add_outside(self):
        self.check(LOOP.replace("n = {bound};", "n = {bound};o = i + k;").replace("2 y;", "2 o;"))

    def test_other_comparisons(self):
        self.check(LOOP.replace("c = x < n", "c = n < x"))
        self.check(LOOP.replace("c = x < n", "c = x - n"))
        self.check(LOOP.replace("c = x < n", "d = x < n;c = d"))
        self.check(LOOP.replace("c = x < n;pick c", "c = x < n;pick x"))
        self.check(LOOP.replace("c = x < n", "d = x;c = d < n"))
        self.check(LOOP.replace("n = {bound};", "n = {bound};o = i < n;").replace("c = x < n;pick c", "c = x < n;pick o"))

    def test_a_comparison_of_another_block(self):
        self.check(
            "given a;block 0;i = 0;k = 1;n = 5;go 1;block 1;x = choose 0 i 2 y;d = choose 0 i 2 e;pick d 3 2;"
            "block 2;y = x + k;e = x < n;go 1;block 3;give x")

    def test_choices_of_another_block(self):
        self.check(
            "given a;block 0;i = 0;k = 1;n = 5;go 1;block 1;x = choose 0 i 2 y;go 2;block 2;c = x < n;y = x + k;pick c 1 3;block 3;give x",
            head=1)

    def test_the_head_is_not_left(self):
        self.check(
            "given a;block 0;i = 0;k = 1;n = 5;go 1;block 1;x = choose 0 i 4 y;c = x < n;pick c 2 3;block 2;y = x + k;go 4;block 3;z = x + k;go 4;"
            "block 4;y2 = choose 2 y 3 z;go 1".replace("4 y;c", "4 y2;c"))
        self.check("given a;block 0;i = 0;k = 1;n = 5;go 1;block 1;x = choose 0 i 2 y;c = x < n;pick c 2 2;block 2;y = x + k;pick a 1 3;block 3;give x")
        self.check("given a;block 0;i = 0;k = 1;n = 5;go 1;block 1;x = choose 0 i 2 y;c = x < n;go 2;block 2;y = x + k;pick a 1 3;block 3;give x")

    def test_left_at_another_block(self):
        self.check(LOOP.replace("block 2;y = {sum};go 1", "block 2;y = {sum};pick a 1 3"))
        self.check(LOOP.replace("block 2;y = {sum};go 1", "block 2;y = {sum};pick a 1 4") + ";block 4;give a")

    def test_three_comers(self):
        self.check(
            "given a;block 0;i = 0;k = 1;n = 5;pick a 1 4;block 1;x = choose 0 i 2 y 4 i;c = x < n;pick c 2 3;block 2;y = x + k;go 1;"
            "block 3;give x;block 4;go 1")
        self.check(
            "given a;block 0;i = 0;k = 1;n = 5;go 1;block 1;x = choose 0 i 2 y 4 z;c = x < n;pick c 2 3;block 2;y = x + k;pick a 1 4;"
            "block 3;give x;block 4;z = x + k;go 1")

    def test_no_count(self):
        self.check("given a;block 0;i = 0;k = 1;n = 5;go 1;block 1;c = i < n;pick c 2 3;block 2;go 1;block 3;give i")
        self.check("given a;block 0;go 1;block 1;go 1")
        self.check("given a;block 0;go 1;block 1;pick a 1 2;block 2;give a")


class RandomTest(unittest.TestCase):
    def test_random_graphs_never_fail(self):
        chance = random.Random(3)
        for _ in range(200):
            graph = random_single(chance, 6, 4, ("set", "add", "less", "set"))
            for head in range(len(graph[1])):
                if head in heads(graph):
                    if is_counted(graph, head):
                        self.assertIn(type(rounds(graph, head)), (int, type(None)))
                    else:
                        self.assertRaises(NotCounted, rounds, graph, head)
                else:
                    self.assertRaises(NoLoop, is_counted, graph, head)
                    self.assertRaises(NoLoop, rounds, graph, head)


class ArgumentsTest(unittest.TestCase):
    def test_wrong_arguments(self):
        check_arguments(self, is_counted, (single(L), 1), ("single", "head"))
        check_arguments(self, rounds, (single(K), 1), ("single", "head"))

    def test_the_sequence_of_checks(self):
        for function in (is_counted, rounds):
            for head in NO_BLOCKS + [0, 1, 2]:
                for graph in (L, D, K, ALL):
                    self.assertRaises(NotSingle, function, graph, head)
                for graph in NO_GRAPHS[:20]:
                    self.assertRaises(InvalidGraph, function, graph, head)
            for head in NO_BLOCKS:
                self.assertRaises(InvalidBlock, function, single(L), head)
            for head in (0, 2, 3):
                self.assertRaises(NoLoop, function, single(L), head)


if __name__ == "__main__":
    unittest.main()
