"""Point 14: trimmed."""

import random
import unittest

from flowkeep.graphs import is_graph
from flowkeep.shaping import trimmed
from flowkeep.texts import format_graph, parse_graph
from tests.arguments import check_arguments
from tests.programs import ALL, D, K, L, ODD, random_graph
from tests.singles import check_meaning
from tests.slow import reached


class TrimmedTest(unittest.TestCase):
    def test_examples(self):
        for graph in (L, D, K):
            self.assertEqual(trimmed(graph), graph)

    def test_blocks_are_numbered_anew(self):
        self.assertEqual(
            format_graph(trimmed(parse_graph(
                "given a;block 0;pick a 4 2;block 1;x = 1;go 2;block 2;show a;go 4;block 3;go 3;block 4;pick a 2 5;block 5;give a"))),
            "given a;block 0;pick a 2 1;block 1;show a;go 2;block 2;pick a 1 3;block 3;give a")

    def test_pairs_of_choices_go(self):
        self.assertEqual(
            format_graph(trimmed(parse_graph(
                "given a;block 0;go 3;block 1;go 3;block 2;pick a 3 1;block 3;x = choose 0 a 1 b 2 c 4 d;go 4;"
                "block 4;y = choose 3 x;pick y 3 3"))),
            "given a;block 0;go 1;block 1;x = choose 0 a 2 d;go 2;block 2;y = choose 1 x;pick y 1 1")

    def test_others(self):
        self.assertEqual(len(trimmed(ODD)[1]), 6)
        self.assertEqual(trimmed(ALL), (ALL[0], ALL[1][:4]))
        self.assertEqual(format_graph(trimmed(parse_graph("given a;block 0;give a;block 1;x = choose 1 y;go 1"))), "given a;block 0;give a")
        forty = (("a",), tuple(((), ("go", 39)) for _ in range(39)) + (((), ("give", "a")),))
        self.assertEqual(trimmed(forty), (("a",), (((), ("go", 1)), ((), ("give", "a")))))

    def test_random_graphs(self):
        chance = random.Random(1)
        for _ in range(300):
            graph = random_graph(chance, chance.randrange(2), 8, 3)
            found = trimmed(graph)
            self.assertIs(is_graph(found), True)
            left = sorted(reached(graph, [0]))
            self.assertEqual(sorted(reached(found, [0])), list(range(len(left))))
            self.assertEqual(len(found[1]), len(left))
            for at, block in enumerate(left):
                steps, others = found[1][at][0], graph[1][block][0]
                self.assertEqual([step[:2] for step in steps], [step[:2] for step in others])
                self.assertEqual([step for step in steps if step[0] != "choose"], [step for step in others if step[0] != "choose"])
            self.assertEqual(found[0], graph[0])
            self.assertEqual(trimmed(found), found)
            check_meaning(self, graph, found, chance, 2, 100)

    def test_wrong_arguments(self):
        check_arguments(self, trimmed, (L,), ("graph",))


if __name__ == "__main__":
    unittest.main()
