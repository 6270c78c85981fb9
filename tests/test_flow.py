"""Points 2.5, 2.9 and 9: blocks that go on to blocks, and ways."""

import random
import unittest

from flowkeep.errors import InvalidBlock
from flowkeep.flow import after, before, is_way, order, reachable, shortest, ways_to
from flowkeep.texts import parse_graph
from tests.arguments import check_arguments
from tests.programs import ALL, D, K, L, random_graph
from tests.samples import oddities
from tests.slow import edges_of, reached, rows_from

ONE = parse_graph("given;block 0;give x")
ROUND = parse_graph("given;block 0;pick x 0 0")
# Block 4 can't be come to, and goes on to block 1; block 0 has comers; block 2 goes to itself.
ODD = parse_graph(
    "given;block 0;pick x 3 1;block 1;go 2;block 2;pick x 2 0;block 3;pick x 1 1;block 4;pick x 1 5;block 5;give x")


def line(many):
    """Return a graph of so many blocks in a line."""
    return ((), tuple(((), ("go", at + 1)) for at in range(many - 1)) + (((), ("give", "x")),))


def told_order(graph):
    """Return the order by visiting with a row of open blocks of one's own."""
    visited, finished, opened = [0], [], [(0, iter(turn(graph, 0)))]
    while opened:
        block, goals = opened[-1]
        for goal in goals:
            if goal not in visited:
                visited.append(goal)
                opened.append((goal, iter(turn(graph, goal))))
                break
        else:
            finished.append(block)
            opened.pop()
    return tuple(reversed(finished))


def turn(graph, block):
    """Return the goals of a block as they stand in its end."""
    return [part for part in graph[1][block][1][1:] if isinstance(part, int)]


class ExamplesTest(unittest.TestCase):
    def test_examples(self):
        self.assertEqual(before(L, 1), (0, 2))
        self.assertEqual(after(L, 1), (2, 3))
        self.assertEqual(reachable(L), (0, 1, 2, 3))
        self.assertEqual(order(L), (0, 1, 3, 2))
        self.assertIs(is_way(L, (0, 1, 3)), True)
        self.assertEqual(shortest(L, 3), (0, 1, 3))
        self.assertEqual(ways_to(L, 3, 5), ((0, 1, 2, 1, 3), (0, 1, 3)))


class GoalsTest(unittest.TestCase):
    def test_after(self):
        self.assertEqual([after(ODD, block) for block in range(6)], [(1, 3), (2,), (0, 2), (1,), (1, 5), ()])
        self.assertEqual(after(ONE, 0), ())
        self.assertEqual(after(ROUND, 0), (0,))

    def test_before(self):
        self.assertEqual([before(ODD, block) for block in range(6)], [(2,), (0, 3, 4), (1, 2), (0,), (), (4,)])
        self.assertEqual(before(ONE, 0), ())
        self.assertEqual(before(ROUND, 0), (0,))

    def test_reachable(self):
        self.assertEqual(reachable(ODD), (0, 1, 2, 3))
        self.assertEqual(reachable(ONE), (0,))
        self.assertEqual(reachable(ROUND), (0,))
        self.assertEqual(reachable(line(40)), tuple(range(40)))
        self.assertEqual(reachable(((), line(40)[1][:3] + (((), ("go", 0)),) + line(40)[1][4:])), (0, 1, 2, 3))

    def test_random_graphs(self):
        chance = random.Random(1)
        for _ in range(300):
            graph = random_graph(chance, chance.randrange(2), 9, 1)
            edges = edges_of(graph)
            for block in range(len(edges)):
                self.assertEqual(after(graph, block), tuple(edges[block]))
                self.assertEqual(before(graph, block), tuple(at for at, row in enumerate(edges) if block in row))
            self.assertEqual(reachable(graph), tuple(sorted(reached(graph, [0]))))


class OrderTest(unittest.TestCase):
    def test_a_pick_goes_to_its_first_goal_first(self):
        graph = parse_graph("given;block 0;pick x 2 1;block 1;give x;block 2;give x")
        self.assertEqual(order(graph), (0, 1, 2))
        graph = parse_graph("given;block 0;pick x 1 2;block 1;give x;block 2;give x")
        self.assertEqual(order(graph), (0, 2, 1))

    def test_a_block_visited_by_another_way(self):
        graph = parse_graph("given;block 0;pick x 2 1;block 1;give x;block 2;go 1")
        self.assertEqual(order(graph), (0, 2, 1))
        graph = parse_graph("given;block 0;pick x 1 2;block 1;go 2;block 2;go 1")
        self.assertEqual(order(graph), (0, 1, 2))
        graph = parse_graph("given;block 0;pick x 2 1;block 1;go 2;block 2;go 1")
        self.assertEqual(order(graph), (0, 2, 1))

    def test_others(self):
        self.assertEqual(order(ONE), (0,))
        self.assertEqual(order(ROUND), (0,))
        self.assertEqual(order(ODD), (0, 3, 1, 2))
        self.assertEqual(order(K), (0, 1, 3, 2))
        self.assertEqual(order(D), (0, 2, 1, 3))
        self.assertEqual(order(line(40)), tuple(range(40)))

    def test_random_graphs(self):
        chance = random.Random(2)
        for _ in range(500):
            graph = random_graph(chance, False, 12, 0)
            self.assertEqual(order(graph), told_order(graph), graph)


class WaysTest(unittest.TestCase):
    def test_is_way(self):
        for way in ((0,), (0, 3), (0, 1), (0, 3, 1, 2), (0, 1, 2, 2, 2, 0, 0)[:6], (0, 1, 2, 0, 3)):
            self.assertIs(is_way(ODD, way), True, way)
        for way in (
                (), (1,), (4,), (0, 0), (0, 2), (0, 1, 3), (0, 4), (4, 1), (4, 5), (0, 1, 2, 5), (0, -3), (0, 1, 2, -6), (0, 6),
                (0, 10 ** 5000), [0], [0, 1], 0, "0", (False,), (0, True), (0.0,), (0, 1.0), ((0,),), (0, (1,)), (0, [1]), {0: 1},
                (0, "1"), (0, None), (0, 1, 2, float("nan")), (0, {}), (0, 1, 2, b"")):
            self.assertIs(is_way(ODD, way), False, way)
        for value in oddities():
            self.assertIs(is_way(ODD, value), False, value)

    def test_twenty_thousand_blocks_and_one_more(self):
        for many in (1, 2, 19999, 20000):
            self.assertIs(is_way(ROUND, (0,) * many), True)
        for many in (0, 20001, 100000):
            self.assertIs(is_way(ROUND, (0,) * many), False)
        self.assertIs(is_way(L, (0,) + (1, 2) * 9999 + (1,)), True)
        self.assertIs(is_way(L, (0,) + (1, 2) * 9999 + (3,)), False)
        self.assertIs(is_way(L, (0,) + (1, 2) * 10000), False)

    def test_shortest(self):
        self.assertEqual([shortest(ODD, block) for block in range(6)], [(0,), (0, 1), (0, 1, 2), (0, 3), None, None])
        self.assertEqual(shortest(ONE, 0), (0,))
        self.assertEqual(shortest(ROUND, 0), (0,))
        self.assertEqual(shortest(line(40), 39), tuple(range(40)))

    def test_the_least_of_several_shortest_ways(self):
        graph = parse_graph(
            "given;block 0;pick x 3 2;block 1;give x;block 2;pick x 5 4;block 3;go 1;block 4;go 1;block 5;go 1")
        self.assertEqual(shortest(graph, 1), (0, 3, 1))
        graph = parse_graph(
            "given;block 0;pick x 3 2;block 1;give x;block 2;pick x 5 4;block 3;go 5;block 4;go 1;block 5;go 1")
        self.assertEqual(shortest(graph, 1), (0, 2, 4, 1))
        self.assertEqual(shortest(graph, 5), (0, 2, 5))

    def test_ways_to(self):
        self.assertEqual(ways_to(ODD, 0, 1), ((0,),))
        self.assertEqual(ways_to(ODD, 1, 1), ())
        self.assertEqual(ways_to(ODD, 1, 3), ((0, 1), (0, 3, 1)))
        self.assertEqual(ways_to(ODD, 2, 4), ((0, 1, 2), (0, 1, 2, 2), (0, 3, 1, 2)))
        self.assertEqual(ways_to(ODD, 0, 4), ((0,), (0, 1, 2, 0)))
        self.assertEqual(ways_to(ODD, 5, 8), ())
        self.assertEqual(ways_to(ROUND, 0, 8), tuple((0,) * many for many in range(1, 9)))
        self.assertEqual(ways_to(line(40), 7, 8), (tuple(range(8)),))
        self.assertEqual(ways_to(line(40), 8, 8), ())

    def test_random_graphs(self):
        chance = random.Random(3)
        for _ in range(150):
            graph = random_graph(chance, chance.randrange(2), 7, 1)
            rows = rows_from(graph, 0, 8)
            for block in range(len(graph[1])):
                found = sorted(row for row in rows if row[-1] == block)
                most = chance.randrange(1, 9)
                self.assertEqual(ways_to(graph, block, most), tuple(row for row in found if len(row) <= most))
                least = min(found, key=lambda row: (len(row), row), default=None)
                self.assertEqual(shortest(graph, block), least)
                for row in found[:3]:
                    self.assertIs(is_way(graph, row), True)
                    for goal in range(len(graph[1])):
                        self.assertIs(is_way(graph, row + (goal,)), goal in edges_of(graph)[block])


class ArgumentsTest(unittest.TestCase):
    def test_wrong_arguments(self):
        for function in (after, before, shortest):
            check_arguments(self, function, (L, 1), ("graph", "block"))
        for function in (reachable, order):
            check_arguments(self, function, (L,), ("graph",))
        check_arguments(self, ways_to, (L, 3, 5), ("graph", "block", "most"))

    def test_is_way_checks_the_graph_alone(self):
        check_arguments(self, lambda graph: is_way(graph, (0,)), (L,), ("graph",))
        check_arguments(self, lambda graph: is_way(graph, None), (L,), ("graph",))

    def test_bounds(self):
        for graph in (ONE, ROUND, D, ALL, line(40)):
            many = len(graph[1])
            for block in range(many):
                self.assertLess(len(after(graph, block)), 3)
            for block in (-1, many, many + 1, True, False, float(many - 1)):
                for function in (after, before, shortest):
                    self.assertRaises(InvalidBlock, function, graph, block)
        for most in range(1, 9):
            ways_to(L, 3, most)


if __name__ == "__main__":
    unittest.main()
