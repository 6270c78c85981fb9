"""Point 12: loops."""

import random
import unittest

from flowkeep.errors import InvalidBlock, NoLoop
from flowkeep.loops import back_edges, depth, heads, loop, outer, tangles
from tests.arguments import NO_BLOCKS, check_arguments
from tests.programs import D, K, L, NESTED, ODD, ONE, ROUND, TANGLE, random_graph, shaped
from tests.samples import oddities
from tests.slow import edges_of, reached, rulers_left_out

# The loop of 3 lies in that of 1.
TWO = shaped((1, 4), (2, 4), (1, 3), (3, 1), ())


def told_back(graph):
    ruled = rulers_left_out(graph)
    return [(block, goal) for block, row in enumerate(edges_of(graph)) for goal in row if goal in ruled[block]]


def told_loop(graph, head):
    """Return the loop of a head, by trying each block for itself."""
    ends = {block for block, goal in told_back(graph) if goal == head}
    whole = reached(graph, [0])
    return tuple(
        block for block in range(len(graph[1]))
        if block == head or block in whole and reached(graph, [block], [head]) & ends)


def told_tangles(graph):
    """Return the tangles, from the pairs of blocks of which the one can be come to from the other one."""
    back = set(told_back(graph))
    edges = {(block, goal) for block, row in enumerate(edges_of(graph)) for goal in row} - back
    whole = reached(graph, [0])
    edges = {(block, goal) for block, goal in edges if block in whole}
    while True:
        more = {(one, last) for one, middle in edges for other, last in edges if middle == other} - edges
        if not more:
            break
        edges |= more
    found = {tuple(sorted(other for other in whole if (one, other) in edges and (other, one) in edges)) for one in whole}
    return tuple(sorted(found - {()}))


class ExamplesTest(unittest.TestCase):
    def test_examples(self):
        self.assertEqual(back_edges(L), ((2, 1),))
        self.assertEqual(heads(L), (1,))
        self.assertEqual(loop(L, 1), (1, 2))
        self.assertEqual(depth(L, 2), 1)
        self.assertIsNone(outer(L, 1))
        self.assertEqual(tangles(L), ())


class LoopsTest(unittest.TestCase):
    def test_back_edges_and_heads(self):
        self.assertEqual(back_edges(NESTED), ((3, 3), (4, 2), (5, 1), (6, 1)))
        self.assertEqual(heads(NESTED), (1, 2, 3))
        self.assertEqual(back_edges(ODD), ((2, 2), (4, 0)))
        self.assertEqual(heads(ODD), (0, 2))
        self.assertEqual(back_edges(ROUND), ((0, 0),))
        self.assertEqual([back_edges(graph) for graph in (ONE, D, TANGLE)], [(), (), ()])
        self.assertEqual([heads(graph) for graph in (ONE, D, TANGLE)], [(), (), ()])

    def test_loop(self):
        self.assertEqual([loop(NESTED, head) for head in (1, 2, 3)], [(1, 2, 3, 4, 5, 6), (2, 3, 4), (3,)])
        self.assertEqual([loop(ODD, head) for head in (0, 2)], [(0, 1, 2, 3, 4), (2,)])
        self.assertEqual(loop(ROUND, 0), (0,))
        self.assertEqual([loop(TWO, head) for head in (1, 3)], [(1, 2, 3), (3,)])

    def test_blocks_that_cant_be_come_to_lie_in_no_loop(self):
        graph = shaped((1,), (1, 2), (), (1, 3), (2,))
        self.assertEqual(back_edges(graph), ((1, 1),))
        self.assertEqual(loop(graph, 1), (1,))
        self.assertEqual([depth(graph, block) for block in range(5)], [0, 1, 0, 0, 0])
        self.assertRaises(NoLoop, loop, graph, 3)
        self.assertEqual(tangles(shaped((), (2,), (1,))), ())

    def test_depth(self):
        self.assertEqual([depth(NESTED, block) for block in range(8)], [0, 1, 2, 3, 2, 1, 1, 0])
        self.assertEqual([depth(ODD, block) for block in range(7)], [1, 1, 2, 1, 1, 0, 0])
        self.assertEqual(depth(ROUND, 0), 1)
        self.assertEqual(depth(ONE, 0), 0)

    def test_outer(self):
        self.assertEqual([outer(NESTED, head) for head in (1, 2, 3)], [None, 1, 2])
        self.assertEqual([outer(ODD, head) for head in (0, 2)], [None, 0])
        self.assertIsNone(outer(ROUND, 0))

    def test_loops_around_a_head_of_many_blocks_and_few(self):
        # Forty blocks: each one but the last goes on, and those behind the middle go back.
        graph = shaped(*[(at + 1,) for at in range(20)], *[(at + 1, 40 - at - 1) for at in range(20, 39)], ())
        self.assertEqual(heads(graph), tuple(range(1, 20)))
        self.assertEqual(loop(graph, 1), tuple(range(1, 39)))
        self.assertEqual(outer(graph, 19), 18)
        self.assertEqual(outer(graph, 1), None)
        self.assertEqual(depth(graph, 20), 19)

    def test_a_loop_entered_in_its_middle_has_no_head(self):
        self.assertEqual(tangles(TANGLE), ((1, 2),))
        self.assertEqual(depth(TANGLE, 1), 0)

    def test_tangles_within_a_loop_and_loops_within_a_tangle(self):
        graph = shaped((1,), (2, 3), (3, 3), (2, 4), (1, 5), ())
        self.assertEqual(back_edges(graph), ((4, 1),))
        self.assertEqual(tangles(graph), ((2, 3),))
        self.assertEqual(loop(graph, 1), (1, 2, 3, 4))
        graph = shaped((1, 2), (3,), (1, 5), (3, 2), (), (5, 2))
        self.assertEqual(back_edges(graph), ((3, 3), (5, 2), (5, 5)))
        self.assertEqual(tangles(graph), ((1, 2, 3),))
        graph = shaped((1, 2), (2, 3), (1, 3), (4, 5), (5, 6), (4, 6), ())
        self.assertEqual(tangles(graph), ((1, 2), (4, 5)))

    def test_random_graphs(self):
        chance = random.Random(1)
        tangled = 0
        for _ in range(500):
            graph = random_graph(chance, chance.randrange(2), 9, 1)
            back = told_back(graph)
            self.assertEqual(back_edges(graph), tuple(back))
            found = sorted({goal for _, goal in back})
            self.assertEqual(heads(graph), tuple(found))
            loops = {head: told_loop(graph, head) for head in found}
            for block in range(len(graph[1])):
                self.assertEqual(depth(graph, block), sum(block in one for one in loops.values()))
                if block in loops:
                    self.assertEqual(loop(graph, block), loops[block])
                    around = [(len(one), head) for head, one in loops.items() if head != block and block in one]
                    self.assertEqual(outer(graph, block), min(around)[1] if around else None)
                else:
                    self.assertRaises(NoLoop, loop, graph, block)
                    self.assertRaises(NoLoop, outer, graph, block)
            self.assertEqual(tangles(graph), told_tangles(graph))
            tangled += tangles(graph) != ()
        self.assertGreater(tangled, 20)


class ArgumentsTest(unittest.TestCase):
    def test_wrong_arguments(self):
        for function in (back_edges, heads, tangles):
            check_arguments(self, function, (L,), ("graph",))
        for function in (loop, outer):
            check_arguments(self, function, (L, 1), ("graph", "head"))
        check_arguments(self, depth, (L, 1), ("graph", "block"))

    def test_no_loop_behind_invalid_block(self):
        for function in (loop, outer):
            for graph in (L, K):
                for head in (0, 2, 3):
                    self.assertRaises(NoLoop, function, graph, head)
            for head in NO_BLOCKS + oddities():
                self.assertRaises(InvalidBlock, function, D, head)
            for block in range(4):
                self.assertRaises(NoLoop, function, D, block)


if __name__ == "__main__":
    unittest.main()
