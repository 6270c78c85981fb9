"""Point 13: facts about plain graphs."""

import random
import unittest

from flowkeep.errors import InvalidBlock, NotPlain
from flowkeep.facts import at_hand, live, needed, reaching
from flowkeep.texts import parse_graph
from tests.arguments import check_arguments
from tests.programs import ALL, D, K, L, random_graph
from tests.samples import oddities
from tests.slow import told_at_hand, told_live, told_needed, told_reaching

FUNCTIONS = (live, reaching, at_hand, needed)


def told(function, text):
    """Return what the function tells of each block of the graph with this text."""
    graph = parse_graph(text)
    return [function(graph, block) for block in range(len(graph[1]))]


class ExamplesTest(unittest.TestCase):
    def test_examples(self):
        self.assertEqual(live(L, 1), ("i", "k", "n", "s"))
        self.assertEqual(reaching(L, 1), ((0, 0), (0, 1), (1, 0), (2, 0), (2, 1)))
        self.assertEqual(at_hand(D, 3), (("add", "a", "b"),))
        self.assertEqual(needed(D, 0), (("add", "a", "b"),))


class LiveTest(unittest.TestCase):
    def test_the_other_examples(self):
        self.assertEqual([live(L, block) for block in range(4)], [("n", "s"), ("i", "k", "n", "s"), ("i", "k", "n", "s"), ("i", "s")])
        self.assertEqual([live(D, block) for block in range(4)], [("a", "b"), ("a", "b"), ("a", "b"), ("a", "b", "x")])
        self.assertEqual([live(K, block) for block in range(4)], [(), ("i", "k", "n"), ("i", "k", "n"), ("i",)])

    def test_every_kind_of_step_reads(self):
        steps = (
            "x = 5", "x = a", "x = b + c", "x = d - e", "x = f * g", "x = h * 3", "x = i / j", "x = k < l", "x = ask",
            "x = cell 1", "cell 1 = m", "show n")
        self.assertEqual(told(live, "given;block 0;" + ";".join(steps) + ";give x"), [tuple("abcdefghijklmn")])
        self.assertEqual(told(live, "given;block 0;give x"), [("x",)])
        self.assertEqual(told(live, "given;block 0;pick y 0 0"), [("y",)])
        self.assertEqual(told(live, "given;block 0;go 0"), [()])

    def test_a_step_reads_ahead_of_giving(self):
        self.assertEqual(told(live, "given;block 0;x = x + y;give x"), [("x", "y")])
        self.assertEqual(told(live, "given;block 0;y = 1;x = y;give x"), [()])

    def test_inputs_may_be_live_or_not(self):
        self.assertEqual(told(live, "given a b;block 0;a = b;give a"), [("b",)])

    def test_around_a_loop_and_to_block_0(self):
        self.assertEqual(
            told(live, "given;block 0;x = y;pick x 1 2;block 1;y = z;z = 1;go 0;block 2;give w"),
            [("w", "y", "z"), ("w", "z"), ("w",)])

    def test_blocks_that_cant_be_come_to(self):
        self.assertEqual(told(live, "given;block 0;give x;block 1;show y;go 0"), [("x",), ("x", "y")])

    def test_on_one_of_the_goals(self):
        self.assertEqual(told(live, "given;block 0;pick c 1 2;block 1;x = 1;go 3;block 2;go 3;block 3;give x")[0], ("c", "x"))


class ReachingTest(unittest.TestCase):
    def test_the_other_examples(self):
        self.assertEqual(
            [reaching(L, block) for block in range(4)],
            [(), ((0, 0), (0, 1), (1, 0), (2, 0), (2, 1)), ((0, 0), (0, 1), (1, 0), (2, 0), (2, 1)),
             ((0, 0), (0, 1), (1, 0), (2, 0), (2, 1))])
        self.assertEqual([reaching(D, block) for block in range(4)], [(), (), (), ((1, 0), (2, 0), (2, 1))])

    def test_given_again(self):
        self.assertEqual(
            told(reaching, "given x;block 0;x = 1;y = 2;x = 3;go 1;block 1;y = y;go 2;block 2;give x"),
            [(), ((0, 1), (0, 2)), ((0, 2), (1, 0))])

    def test_block_0_with_comers(self):
        self.assertEqual(
            told(reaching, "given;block 0;x = 1;pick x 0 1;block 1;y = 1;x = 2;go 0"),
            [((0, 0), (1, 0), (1, 1)), ((0, 0), (1, 0))])

    def test_blocks_that_cant_be_come_to(self):
        self.assertEqual(
            told(reaching, "given;block 0;x = 1;go 2;block 1;x = 2;go 2;block 2;give x"), [(), (), ((0, 0),)])
        self.assertEqual(told(reaching, "given;block 0;give x;block 1;x = 1;pick x 1 2;block 2;give x"), [(), (), ()])

    def test_steps_that_give_nothing_do_not_reach(self):
        self.assertEqual(
            told(reaching, "given;block 0;cell 0 = x;show x;x = cell 0;z = ask;d = x / z;go 1;block 1;give x")[1],
            ((0, 2), (0, 3), (0, 4)))

    def test_a_step_of_another_way_around(self):
        self.assertEqual(
            told(reaching, "given;block 0;go 1;block 1;show x;pick x 1 2;block 2;x = 1;pick y 1 3;block 3;give x"),
            [(), ((2, 0),), ((2, 0),), ((2, 0),)])


class AtHandTest(unittest.TestCase):
    def test_the_other_examples(self):
        self.assertEqual([at_hand(D, block) for block in range(4)], [(), (), (), (("add", "a", "b"),)])
        self.assertEqual([at_hand(L, block) for block in range(4)], [(), (), (("less", "i", "n"),), (("less", "i", "n"),)])

    def test_all_kinds_in_the_sequence_of_their_texts(self):
        text = (
            "given a b;block 0;x = a * 9;x = a * 10;x = a * a;x = a - b;x = b < a;x = a / b;x = a + b;x = b + a;x = ask;"
            "x = cell 1;x = a;go 1;block 1;give x")
        self.assertEqual(told(at_hand, text)[1], (
            ("add", "a", "b"), ("add", "b", "a"), ("less", "b", "a"), ("mul", "a", "a"), ("sub", "a", "b"),
            ("times", "a", 10), ("times", "a", 9)))

    def test_a_step_reckons_ahead_of_giving(self):
        self.assertEqual(told(at_hand, "given a b;block 0;a = a + b;go 1;block 1;give a")[1], ())
        self.assertEqual(told(at_hand, "given a b;block 0;x = a + b;a = 1;x = a + b;go 1;block 1;give a")[1], (("add", "a", "b"),))
        self.assertEqual(told(at_hand, "given a b;block 0;x = a + b;b = ask;go 1;block 1;give a")[1], ())
        self.assertEqual(told(at_hand, "given a b;block 0;x = a + b;add = 1;go 1;block 1;give a")[1], (("add", "a", "b"),))

    def test_on_one_of_the_ways(self):
        text = "given a b;block 0;pick a 1 2;block 1;x = a + b;go 3;block 2;go 3;block 3;give x"
        self.assertEqual(told(at_hand, text), [(), (), (), ()])

    def test_around_a_loop(self):
        text = "given a b;block 0;x = a + b;go 1;block 1;y = a * b;pick y 1 2;block 2;give y"
        self.assertEqual(told(at_hand, text), [(), (("add", "a", "b"),), (("add", "a", "b"), ("mul", "a", "b"))])
        text = "given a b;block 0;x = a + b;go 1;block 1;pick y 2 3;block 2;a = y;go 1;block 3;give y"
        self.assertEqual(told(at_hand, text), [(), (), (), ()])

    def test_block_0_with_comers(self):
        text = "given a b;block 0;x = a + b;pick x 0 1;block 1;x = a + b;go 0"
        self.assertEqual(told(at_hand, text), [(), (("add", "a", "b"),)])

    def test_blocks_that_cant_be_come_to(self):
        text = "given a b;block 0;x = a + b;go 2;block 1;x = a * b;go 2;block 2;give x;block 3;x = b + a;pick x 1 3"
        self.assertEqual(told(at_hand, text), [(), (), (("add", "a", "b"),), ()])


class NeededTest(unittest.TestCase):
    def test_the_other_examples(self):
        self.assertEqual([needed(D, block) for block in range(4)], [(("add", "a", "b"),)] * 4)
        self.assertEqual([needed(L, block) for block in range(4)], [
            (), (("less", "i", "n"),), (("add", "i", "k"), ("add", "s", "n")), ()])

    def test_all_kinds_in_the_sequence_of_their_texts(self):
        text = "given a b;block 0;x = a * 9;x = a * 10;x = a * a;x = a - b;x = b < a;x = a / b;x = a + b;x = ask;give x"
        self.assertEqual(told(needed, text)[0], (
            ("add", "a", "b"), ("less", "b", "a"), ("mul", "a", "a"), ("sub", "a", "b"), ("times", "a", 10), ("times", "a", 9)))

    def test_ahead_of_a_name_being_given(self):
        self.assertEqual(told(needed, "given a b;block 0;a = 1;x = a + b;give x"), [()])
        self.assertEqual(told(needed, "given a b;block 0;a = a + b;x = a + b;give x"), [(("add", "a", "b"),)])
        self.assertEqual(told(needed, "given a b;block 0;x = 1;go 1;block 1;x = x + b;give x"), [(), (("add", "x", "b"),)])

    def test_a_row_that_never_ends_must_reckon_it(self):
        text = "given a b;block 0;go 1;block 1;pick a 1 2;block 2;x = a + b;give x"
        self.assertEqual(told(needed, text), [(), (), (("add", "a", "b"),)])
        text = "given a b;block 0;go 1;block 1;x = a + b;pick a 1 2;block 2;give x"
        self.assertEqual(told(needed, text), [(("add", "a", "b"),), (("add", "a", "b"),), ()])
        self.assertEqual(told(needed, "given;block 0;go 0"), [()])
        text = "given a b;block 0;pick a 1 2;block 1;x = a + b;go 1;block 2;x = a + b;go 3;block 3;go 3"
        self.assertEqual(told(needed, text), [(("add", "a", "b"),), (("add", "a", "b"),), (("add", "a", "b"),), ()])

    def test_blocks_that_cant_be_come_to(self):
        self.assertEqual(
            told(needed, "given a b;block 0;give a;block 1;x = a + b;give x;block 2;pick a 1 1"),
            [(), (("add", "a", "b"),), (("add", "a", "b"),)])

    def test_a_give_ends_the_row(self):
        text = "given a b;block 0;pick a 1 2;block 1;give a;block 2;x = a + b;give x"
        self.assertEqual(told(needed, text), [(), (), (("add", "a", "b"),)])


class RandomTest(unittest.TestCase):
    def test_second_reckonings(self):
        chance = random.Random(1)
        found = {told: 0 for told in FUNCTIONS}
        for number in range(600):
            graph = random_graph(chance, False, 4, (1, 3, 6)[number % 3])
            for block in range(len(graph[1])):
                for function, slow in zip(FUNCTIONS, (told_live, told_reaching, told_at_hand, told_needed)):
                    self.assertEqual(function(graph, block), slow(graph, block), (graph, block, function))
                    found[function] += function(graph, block) != ()
        for function in FUNCTIONS:
            self.assertGreater(found[function], 50)

    def test_few_expressions_and_many_blocks(self):
        chance = random.Random(2)
        pool = (
            ("add", "x", "a", "b"), ("add", "x", "a", "b"), ("add", "y", "a", "b"), ("times", "y", "a", 3), ("set", "a", 1),
            ("ask", "x"), ("show", "a"), ("add", "a", "a", "b"))
        for _ in range(300):
            graph = random_graph(chance, False, 6, 0)
            blocks = tuple((tuple(chance.sample(pool, chance.randrange(3))), end) for _, end in graph[1])
            graph = (graph[0], blocks)
            for block in range(len(blocks)):
                self.assertEqual(needed(graph, block), told_needed(graph, block))
                self.assertEqual(live(graph, block), told_live(graph, block))
                if len(blocks) < 5:
                    self.assertEqual(at_hand(graph, block), told_at_hand(graph, block))

    def test_the_greatest_graph(self):
        chance = random.Random(3)
        blocks = []
        for at in range(40):
            steps = tuple(
                ("add", f"n{chance.randrange(3000)}", f"n{chance.randrange(3000)}", f"n{chance.randrange(3000)}")
                for _ in range(60))
            blocks.append((steps, ("pick", "n1", (at + 1) % 40, chance.randrange(40)) if at < 39 else ("give", "n0")))
        graph = (("n5", "n6"), tuple(blocks))
        self.assertEqual(len(needed(graph, 39)), 60)
        self.assertGreater(len(at_hand(graph, 39)), 1)
        self.assertGreater(len(reaching(graph, 39)), 100)
        self.assertGreater(len(live(graph, 0)), 500)


class ArgumentsTest(unittest.TestCase):
    def test_wrong_arguments(self):
        for function in FUNCTIONS:
            check_arguments(self, function, (L, 1), ("plain", "block"))

    def test_not_plain_ahead_of_invalid_block(self):
        for function in FUNCTIONS:
            for block in oddities() + [0, 1, -1, 40]:
                self.assertRaises(NotPlain, function, ALL, block)
            for block in (4, -1, True):
                self.assertRaises(InvalidBlock, function, D, block)


if __name__ == "__main__":
    unittest.main()
