"""Point 11: rulers and fringes."""

import random
import unittest

from flowkeep.errors import InvalidBlock
from flowkeep.ruling import fringe, must_pass, ruler, rulers, tree, whole_fringe
from tests.arguments import check_arguments
from tests.programs import D, K, L, ODD, ONE, ROUND, TANGLE, random_graph, shaped
from tests.slow import edges_of, rows_from, rulers_left_out, told_fringe, told_rulers


class ExamplesTest(unittest.TestCase):
    def test_examples(self):
        self.assertEqual(rulers(L, 3), (0, 1, 3))
        self.assertEqual(ruler(L, 3), 1)
        self.assertEqual(tree(L), ((1, 0), (2, 1), (3, 1)))
        self.assertEqual(fringe(L, 2), (1,))
        self.assertEqual(whole_fringe(D, (1, 2)), (3,))
        self.assertEqual(must_pass(L, 2), (1, 2, 3))


class RulersTest(unittest.TestCase):
    def test_rulers(self):
        self.assertEqual(
            [rulers(ODD, block) for block in range(7)],
            [(0,), (0, 1), (0, 1, 2), (0, 3), (0, 1, 2, 4), (), (0, 1, 2, 4, 6)])
        self.assertEqual([rulers(TANGLE, block) for block in range(4)], [(0,), (0, 1), (0, 2), (0, 3)])
        self.assertEqual(rulers(ONE, 0), (0,))
        self.assertEqual(rulers(ROUND, 0), (0,))

    def test_ruler(self):
        self.assertEqual([ruler(ODD, block) for block in range(7)], [None, 0, 1, 0, 2, None, 4])
        self.assertEqual([ruler(TANGLE, block) for block in range(4)], [None, 0, 0, 0])
        self.assertEqual([ruler(ONE, 0), ruler(ROUND, 0)], [None, None])

    def test_the_nearest_ruler_may_have_a_greater_number(self):
        graph = shaped((3,), (), (1,), (2,))
        self.assertEqual(rulers(graph, 1), (0, 1, 2, 3))
        self.assertEqual([ruler(graph, block) for block in range(4)], [None, 2, 3, 0])
        self.assertEqual(tree(graph), ((1, 2), (2, 3), (3, 0)))

    def test_tree(self):
        self.assertEqual(tree(ODD), ((1, 0), (2, 1), (3, 0), (4, 2), (6, 4)))
        self.assertEqual([tree(ONE), tree(ROUND)], [(), ()])
        self.assertEqual(tree(D), ((1, 0), (2, 0), (3, 0)))

    def test_comers_that_cant_be_come_to_do_not_matter(self):
        graph = shaped((1,), (2,), (), (2, 3))
        self.assertEqual(rulers(graph, 2), (0, 1, 2))
        self.assertEqual(fringe(graph, 3), ())
        self.assertEqual([fringe(graph, block) for block in range(3)], [(), (), ()])

    def test_forty_blocks(self):
        graph = shaped(*[(at + 1,) for at in range(39)], ())
        self.assertEqual(rulers(graph, 39), tuple(range(40)))
        self.assertEqual(tree(graph), tuple((at, at - 1) for at in range(1, 40)))
        self.assertEqual(must_pass(graph, 0), tuple(range(40)))
        graph = shaped(*[(at + 1, 39) for at in range(39)], ())
        self.assertEqual(rulers(graph, 39), (0, 39))
        self.assertEqual(rulers(graph, 38), tuple(range(39)))

    def test_random_graphs(self):
        chance = random.Random(1)
        for number in range(400):
            graph = random_graph(chance, chance.randrange(2), 5 if number % 2 else 9, 1)
            ruled = rulers_left_out(graph)
            self.assertEqual(ruled, told_rulers(graph))
            pairs = []
            for block in range(len(graph[1])):
                self.assertEqual(rulers(graph, block), tuple(sorted(ruled[block])))
                others = [one for one in ruled[block] - {block} if ruled[block] - {block} <= ruled[one]]
                self.assertEqual(ruler(graph, block), others[0] if others else None)
                pairs += [(block, one) for one in others]
            self.assertEqual(tree(graph), tuple(pairs))


class FringesTest(unittest.TestCase):
    def test_fringe(self):
        self.assertEqual([fringe(ODD, block) for block in range(7)], [(0,), (0,), (0, 2), (1,), (0,), (), ()])
        self.assertEqual([fringe(TANGLE, block) for block in range(4)], [(), (2, 3), (1, 3), ()])
        self.assertEqual([fringe(ONE, 0), fringe(ROUND, 0)], [(), (0,)])
        self.assertEqual([fringe(L, block) for block in range(4)], [(), (1,), (1,), ()])

    def test_whole_fringe(self):
        self.assertEqual(whole_fringe(ODD, (3,)), (0, 1))
        self.assertEqual(whole_fringe(ODD, (6, 5)), ())
        self.assertEqual(whole_fringe(ODD, ()), ())
        self.assertEqual(whole_fringe(TANGLE, (1,)), (1, 2, 3))
        self.assertEqual(whole_fringe(TANGLE, (3, 0, 3)), ())
        self.assertEqual(whole_fringe(D, (1,)), (3,))
        self.assertEqual(whole_fringe(D, (0, 3)), ())
        # The fringe of 4 is 5, that of 5 is 6, that of 6 is 7.
        graph = shaped((1, 7), (2, 6), (3, 5), (4, 5), (5,), (6,), (7,), ())
        self.assertEqual([fringe(graph, block) for block in (3, 5, 6, 7)], [(5,), (6,), (7,), ()])
        self.assertEqual(whole_fringe(graph, (3,)), (5, 6, 7))

    def test_random_graphs(self):
        chance = random.Random(2)
        for _ in range(400):
            graph = random_graph(chance, chance.randrange(2), 9, 1)
            many = len(graph[1])
            ruled = rulers_left_out(graph)
            fringes = [told_fringe(graph, ruled, block) for block in range(many)]
            self.assertEqual([fringe(graph, block) for block in range(many)], fringes)
            blocks = tuple(chance.randrange(many) for _ in range(chance.randrange(4)))
            found = set()
            for _ in range(many + 1):
                found |= {goal for block in found | set(blocks) for goal in fringes[block]}
            whole = set()
            for _ in range(many + 1):
                whole = {goal for block in list(blocks) + sorted(whole) for goal in fringes[block]} | whole
            self.assertEqual(found, whole)
            self.assertEqual(whole_fringe(graph, blocks), tuple(sorted(whole)))


class MustPassTest(unittest.TestCase):
    def test_must_pass(self):
        self.assertEqual(
            [must_pass(ODD, block) for block in range(7)],
            [(0, 1, 2, 4, 6), (1, 2, 4, 6), (2, 4, 6), (1, 2, 3, 4, 6), (4, 6), (1, 2, 4, 5, 6), (6,)])
        self.assertEqual([must_pass(TANGLE, block) for block in range(4)], [(0, 3), (1, 3), (2, 3), (3,)])
        self.assertEqual([must_pass(D, block) for block in range(4)], [(0, 3), (1, 3), (2, 3), (3,)])
        self.assertEqual(must_pass(ONE, 0), (0,))

    def test_no_give_can_be_come_to(self):
        self.assertEqual(must_pass(ROUND, 0), ())
        graph = shaped((1, 2), (1,), ())
        self.assertEqual([must_pass(graph, block) for block in range(3)], [(0, 2), (), (2,)])
        graph = shaped((1,), (0,), ())
        self.assertEqual([must_pass(graph, block) for block in range(3)], [(), (), (2,)])

    def test_several_gives(self):
        graph = shaped((1,), (2, 3), (), ())
        self.assertEqual(must_pass(graph, 0), (0, 1))

    def test_random_graphs(self):
        chance = random.Random(3)
        for number in range(400):
            graph = random_graph(chance, chance.randrange(2), 5 if number % 2 else 9, 1)
            edges = edges_of(graph)
            for block in range(len(edges)):
                rows = [set(row) for row in rows_from(graph, block, len(edges)) if not edges[row[-1]]]
                expected = set.intersection(*rows) if rows else set()
                self.assertEqual(must_pass(graph, block), tuple(sorted(expected)))


class ArgumentsTest(unittest.TestCase):
    def test_wrong_arguments(self):
        for function in (rulers, ruler, fringe, must_pass):
            check_arguments(self, function, (L, 1), ("graph", "block"))
        check_arguments(self, tree, (L,), ("graph",))
        check_arguments(self, whole_fringe, (L, (0, 1)), ("graph", "blocks"))

    def test_bounds(self):
        for graph in (ONE, ODD, K):
            many = len(graph[1])
            for block in (-1, many, True):
                for function in (rulers, ruler, fringe, must_pass):
                    self.assertRaises(InvalidBlock, function, graph, block)
                self.assertRaises(InvalidBlock, whole_fringe, graph, (block,))
                self.assertRaises(InvalidBlock, whole_fringe, graph, (0, block))


if __name__ == "__main__":
    unittest.main()
