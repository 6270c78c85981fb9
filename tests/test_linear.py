"""Points 1 (a), 2.6, 2.10 and 10: linear equations."""

import copy
import random
import unittest

from flowkeep.errors import (
    InvalidBlock, InvalidGraph, InvalidName, InvalidRow, InvalidValues, InvalidWay, TooMany)
from flowkeep.flow import is_way
from flowkeep.linear import breaking, count_values, equal_at, equations_at, known_at, states_at, walk
from flowkeep.spans import contains, equations, form, holds
from flowkeep.texts import parse_graph
from tests.arguments import check_arguments
from tests.programs import D, K, L, random_graph
from tests.samples import oddities
from tests.slow import all_names, edges_of, reached, rows_from, told_walk

WORDS = (0, 1, 2, 3, 4, 255, 256, 32767, 32768, 49152, 65534, 65535)


def random_word(chance):
    return chance.choice(WORDS + (chance.randrange(65536),) * 4)


def random_way(chance, graph, most):
    """Return a way of at most so many blocks."""
    edges = edges_of(graph)
    way = (0,)
    while len(way) < most and edges[way[-1]] and chance.randrange(8):
        way += (chance.choice(edges[way[-1]]),)
    return way


def drawn_walks(chance, graph, many):
    """Yield ways, drawn unknown values, and the states of the walks."""
    for _ in range(many):
        way = random_way(chance, graph, 12)
        values = tuple(random_word(chance) for _ in range(100 + len(graph[0])))
        state, need = told_walk(graph, way, values)
        yield way, values[:need], state


def total(state, equation):
    return sum(one * other for one, other in zip(state, equation)) % 65536


def some_equations(chance, told, width):
    """Yield equations that hold, told as the rows of a form, such that nearly hold, and others."""
    for _ in range(4):
        row = [0] * width
        for one in told:
            factor = random_word(chance)
            row = [(mine + factor * its) % 65536 for mine, its in zip(row, one)]
        yield tuple(row)
        row[chance.randrange(width)] = random_word(chance)
        yield tuple(row)
        yield tuple(random_word(chance) if chance.randrange(2) else 0 for _ in range(width))
    for row in told:
        yield tuple(number // 2 for number in row)
        yield tuple(number * 2 % 65536 for number in row)
    for place in range(width):
        yield tuple(32768 if at == place else 0 for at in range(width))
        yield tuple(1 if at == place else 0 for at in range(width))


class ExamplesTest(unittest.TestCase):
    def test_examples(self):
        self.assertEqual(states_at(L, 0), ((1, 0, 0, 0, 0, 0, 0, 0, 0, 0), (0, 0, 0, 0, 1, 0, 0, 0, 0, 0)))
        self.assertEqual(equations_at(L, 1)[0], (1, 0, 0, 65535, 0, 0, 0, 0, 0, 0))
        self.assertEqual(count_values(L, (0, 1, 2)), 2)
        self.assertEqual(walk(L, (0, 1, 2), (3, 1)), (1, 1, 0, 1, 3, 0, 0, 0, 0, 0))
        self.assertEqual(known_at(L, 1), (("k", 1),))
        self.assertEqual(equal_at(L, 1, "i"), ("i",))


class WalkTest(unittest.TestCase):
    def test_kinds_of_steps(self):
        graph = parse_graph(
            "given a b;block 0;x = 7;y = x;z = x + a;w = z - b;v = w * 3;cell 2 = v;u = cell 2;t = cell 0;show u;go 1;block 1;give t")
        # The names are a, b, t, u, v, w, x, y, z.
        self.assertEqual(walk(graph, (0, 1), (10, 20)), (1, 10, 20, 0, 65527, 65527, 65533, 7, 7, 17, 0, 0, 65527, 0))
        self.assertEqual(walk(graph, (0,), (10, 20)), (1, 10, 20) + (0,) * 11)
        self.assertEqual(count_values(graph, (0, 1)), 2)

    def test_unknown_values_are_taken_in_sequence(self):
        graph = parse_graph(
            "given b a;block 0;x = a * b;x = a * 2;y = a / z;y = a < b;z = ask;z = x;go 1;block 1;c = y * y;go 0")
        self.assertEqual(count_values(graph, (0,)), 2)
        self.assertEqual(count_values(graph, (0, 1)), 6)
        self.assertEqual(count_values(graph, (0, 1, 0)), 7)
        self.assertEqual(count_values(graph, (0, 1, 0, 1)), 11)
        # The names are a, b, c, x, y, z.
        self.assertEqual(walk(graph, (0, 1), (5, 6, 7, 8, 9, 10)), (1, 6, 5, 0, 12, 9, 12, 0, 0, 0, 0))
        self.assertEqual(walk(graph, (0, 1, 0), (5, 6, 7, 8, 9, 10, 11)), (1, 6, 5, 11, 12, 9, 12, 0, 0, 0, 0))

    def test_ends_say_nothing_and_quotients_never_stop(self):
        graph = parse_graph("given;block 0;x = 1;z = x / y;pick x 1 2;block 1;give x;block 2;give z")
        self.assertEqual(walk(graph, (0, 2), (9,)), (1, 1, 0, 9, 0, 0, 0, 0))
        self.assertEqual(walk(graph, (0, 1), (65535,)), (1, 1, 0, 65535, 0, 0, 0, 0))

    def test_choices_of_the_last_block_are_performed_at_once(self):
        graph = parse_graph(
            "given a b;block 0;pick a 1 1;block 1;a = choose 0 b 1 b;b = choose 0 a 1 a;c = 5;pick a 1 2;block 2;d = choose 1 c;give d")
        self.assertEqual(walk(graph, (0, 1), (3, 4)), (1, 4, 3, 0, 0, 0, 0, 0, 0))
        self.assertEqual(walk(graph, (0, 1, 1), (3, 4)), (1, 3, 4, 5, 0, 0, 0, 0, 0))
        self.assertEqual(walk(graph, (0, 1, 1, 2), (3, 4)), (1, 3, 4, 5, 5, 0, 0, 0, 0))

    def test_the_longest_ways(self):
        graph = parse_graph("given a;block 0;s = s + a;n = n + k;k = 1;q = ask;pick a 0 1;block 1;give s")
        way = (0,) * 19999 + (1,)
        self.assertEqual(count_values(graph, way), 20000)
        values = (3,) + tuple(range(19999))
        self.assertEqual(walk(graph, way, values), (1, 3, 1, 19998, 19998, 59997, 0, 0, 0, 0))
        for function in (lambda way: count_values(graph, way), lambda way: walk(graph, way, values)):
            self.assertRaises(InvalidWay, function, (0,) * 20000 + (1,))

    def test_more_than_11_names(self):
        steps = tuple(("ask", f"n{at}") for at in range(60))
        graph = (("n0", "x"), ((steps, ("go", 1)), ((("copy", "y", "x"),), ("go", 0))))
        self.assertEqual(count_values(graph, (0, 1, 0)), 62)
        state = walk(graph, (0, 1, 0), tuple(range(62)))
        self.assertEqual(state, told_walk(graph, (0, 1, 0), range(62))[0])
        self.assertEqual(len(state), 67)
        self.assertEqual(state[-6:], (1, 1, 0, 0, 0, 0))

    def test_random_graphs(self):
        chance = random.Random(1)
        for _ in range(300):
            graph = random_graph(chance, chance.randrange(2), 6, 8)
            for way, values, state in drawn_walks(chance, graph, 6):
                self.assertEqual(count_values(graph, way), len(values))
                self.assertEqual(walk(graph, way, values), state)


class StatesTest(unittest.TestCase):
    def test_small_cases(self):
        graph = parse_graph("given;block 0;x = 6;go 1;block 1;x = x + x;pick x 1 2;block 2;give x")
        # 6, 12, 24 and so on: the differences are the multiples of 6, which 6 itself is not known from.
        self.assertEqual(states_at(graph, 0), ((1, 0, 0, 0, 0, 0),))
        self.assertEqual(states_at(graph, 1), ((1, 0, 0, 0, 0, 0), (0, 2, 0, 0, 0, 0)))
        self.assertEqual(equations_at(graph, 1)[0], (0, 32768, 0, 0, 0, 0))
        self.assertEqual(known_at(graph, 0), (("x", 0),))
        self.assertEqual(known_at(graph, 1), ())

    def test_multiples_that_go_round(self):
        graph = parse_graph("given a;block 0;x = a * 16384;go 1;block 1;y = x * 4;z = x * 2;go 2;block 2;give y")
        self.assertEqual(known_at(graph, 2), (("y", 0),))
        self.assertIsNone(breaking(graph, 2, (0, 0, 0, 0, 32768, 0, 0, 0, 0)))
        self.assertIsNone(breaking(graph, 2, (0, 0, 4, 0, 0, 0, 0, 0, 0)))
        self.assertIsNotNone(breaking(graph, 2, (0, 0, 2, 0, 0, 0, 0, 0, 0)))
        self.assertIsNone(breaking(graph, 2, (0, 0, 2, 0, 65535, 0, 0, 0, 0)))

    def test_blocks_that_cant_be_come_to(self):
        graph = parse_graph("given n;block 0;go 2;block 1;n = ask;go 2;block 2;give n")
        self.assertEqual(states_at(graph, 1), ())
        self.assertEqual(equations_at(graph, 1), tuple(
            tuple(int(place == at) for place in range(6)) for at in range(6)))
        self.assertIsNone(breaking(graph, 1, (1, 2, 3, 4, 5, 6)))
        self.assertEqual(known_at(graph, 1), ())
        self.assertEqual(equal_at(graph, 1, "n"), ("n",))
        self.assertEqual(equal_at(parse_graph("given a b;block 0;give a;block 1;give b"), 1, "b"), ("a", "b"))
        # What comes from block 1 does not count at block 2.
        self.assertEqual(states_at(graph, 2), states_at(graph, 0))

    def test_block_0_with_comers(self):
        graph = parse_graph("given n;block 0;n = 5;x = x + k;k = 2;pick n 0 1;block 1;give x")
        self.assertEqual(known_at(graph, 0), ())
        self.assertEqual(known_at(graph, 1), (("k", 2), ("n", 5)))
        # At block 0 the walk that begins there counts, too.
        self.assertIsNone(breaking(graph, 0, (0, 32768, 0, 0, 0, 0, 0, 0)))
        self.assertEqual(breaking(graph, 0, (0, 0, 1, 0, 0, 0, 0, 0))[0], (0,))

    def test_a_block_is_told_ahead_of_its_steps_and_behind_its_choices(self):
        graph = parse_graph("given a b;block 0;x = a;go 1;block 1;x = choose 0 b;y = x;go 2;block 2;give y")
        self.assertEqual(equal_at(graph, 0, "x"), ("x", "y"))
        self.assertEqual(equal_at(graph, 1, "x"), ("b", "x"))
        self.assertEqual(equal_at(graph, 2, "y"), ("b", "x", "y"))

    def test_choices_follow_the_block_come_from(self):
        graph = parse_graph(
            "given a;block 0;x = 1;y = 2;pick a 1 2;block 1;go 3;block 2;y = 3;x = 5;go 3;"
            "block 3;p = choose 1 x 2 y;q = choose 1 y 2 x;give p")
        # p and q are 1 and 2, or 3 and 5: so 2 * q - 3 * p is 1.
        self.assertIsNone(breaking(graph, 3, (65535, 0, 65533, 2, 0, 0, 0, 0, 0, 0)))
        self.assertEqual(known_at(graph, 3), ())

    def test_other_examples(self):
        self.assertEqual(known_at(K, 1), (("k", 2), ("n", 6)))
        self.assertEqual(known_at(K, 3), (("k", 2), ("n", 6)))
        self.assertIsNone(breaking(K, 3, (0, 0, 32768, 0, 0, 0, 0, 0, 0)))
        self.assertEqual(equal_at(D, 3, "x"), ("x",))
        self.assertIsNone(breaking(D, 3, (0, 1, 1, 65535, 0, 0, 0, 0, 0, 0)))
        for block in range(4):
            self.assertEqual(equal_at(K, block, "k"), ("c", "i", "k", "n") if block == 0 else ("k",))

    def test_a_long_way(self):
        # Each round through 39 blocks moves the values by one name, the last one to a cell: 1 comes to it in the tenth.
        names = [f"n{at}" for at in range(10)]
        moves = [("write", 3, names[-1])] + [("copy", one, other) for one, other in zip(names[:0:-1], names[-2::-1])]
        ring = [((), ("go", at + 1)) for at in range(1, 39)]
        graph = ((), (
            ((("set", "n0", 1), ("set", "x", 5)), ("go", 1)),
            ((("read", "x", 2), *moves, ("set", "n0", 0)), ("go", 2)), *ring[1:], ((), ("go", 1))))
        self.assertEqual(len(all_names(graph)), 11)
        self.assertIsNone(breaking(graph, 5, (0,) * 14 + (1, 0)))
        way, values = breaking(graph, 5, (0,) * 15 + (1,))
        self.assertEqual(len(way), 6 + 9 * 39)
        self.assertEqual(told_walk(graph, way, values)[0][-1], 1)
        self.assertIs(is_way(graph, way), True)

    def test_the_greatest_graphs(self):
        chance = random.Random(9)
        names = tuple(f"n{at}" for at in range(11))
        for _ in range(4):
            blocks = []
            for at in range(40):
                steps = []
                for _ in range(60):
                    one, other, third = (chance.choice(names) for _ in range(3))
                    steps.append(chance.choice((
                        ("add", one, other, third), ("sub", one, other, third), ("times", one, other, random_word(chance)),
                        ("copy", one, other), ("read", one, chance.randrange(4)), ("write", chance.randrange(4), one),
                        ("mul", one, other, third))))
                blocks.append((tuple(steps[:chance.choice((1, 2, 60))]), ("pick", names[0], (at + 1) % 40, chance.randrange(40))))
            graph = (names[:4], tuple(blocks))
            for block in (0, 17, 39):
                told = equations_at(graph, block)
                self.assertEqual(equations(told, 16), states_at(graph, block))
                self.check_equation(graph, block, told, tuple(random_word(chance) for _ in range(16)))

    def check_equation(self, graph, block, told, equation):
        """Check whether an equation is told to be broken just if it is not among the told ones."""
        found = breaking(graph, block, equation)
        if contains(told, len(equation), equation):
            self.assertIsNone(found)
        else:
            way, values = found
            self.assertIs(is_way(graph, way), True)
            self.assertEqual(way[-1], block)
            state, need = told_walk(graph, way, values)
            self.assertEqual(need, len(values))
            self.assertNotEqual(total(state, equation), 0)
            self.assertEqual(walk(graph, way, values), state)

    def test_random_graphs(self):
        chance = random.Random(2)
        for _ in range(60):
            graph = random_graph(chance, chance.randrange(2), 5, 5)
            width = len(all_names(graph)) + 5
            for block in range(len(graph[1])):
                told, states = equations_at(graph, block), states_at(graph, block)
                self.assertEqual(form(told, width), told)
                self.assertEqual(form(states, width), states)
                self.assertEqual(equations(told, width), states)
                for equation in some_equations(chance, told, width):
                    self.check_equation(graph, block, told, equation)

    def test_drawn_walks(self):
        chance = random.Random(3)
        for _ in range(150):
            graph = random_graph(chance, chance.randrange(2), 5, 5)
            width = len(all_names(graph)) + 5
            told = [(equations_at(graph, block), states_at(graph, block)) for block in range(len(graph[1]))]
            for way, _, state in drawn_walks(chance, graph, 25):
                rows, states = told[way[-1]]
                self.assertIs(contains(states, width, state), True)
                for equation in rows:
                    self.assertIs(holds((state,), width, equation), True)

    def test_all_short_ways(self):
        chance = random.Random(4)
        same = 0
        for _ in range(60):
            graph = random_graph(chance, chance.randrange(2), 3, 2)
            width = len(all_names(graph)) + 5
            for block in range(len(graph[1])):
                found = []
                for way in rows_from(graph, 0, 7):
                    if way[-1] == block:
                        need = told_walk(graph, way, (0,) * 20)[1]
                        for one in range(-1, need):
                            values = tuple(int(at == one) for at in range(need))
                            found.append(told_walk(graph, way, values)[0])
                            if len(found) > 8:
                                found = list(form(tuple(found), width))
                self.assertEqual(form(tuple(found), width), states_at(graph, block))
                same += 1
        self.assertGreater(same, 60)


class NamesTest(unittest.TestCase):
    def test_random_graphs(self):
        chance = random.Random(5)
        for _ in range(150):
            graph = random_graph(chance, chance.randrange(2), 5, 4)
            found = all_names(graph)
            width = len(found) + 5
            whole = reached(graph, [0])
            for block in range(len(graph[1])):
                told = equations_at(graph, block)
                rows = [state for way, _, state in drawn_walks(chance, graph, 20) if way[-1] == block]
                known = dict(known_at(graph, block))
                self.assertEqual(tuple(sorted(known.items())), known_at(graph, block))
                for at, name in enumerate(found):
                    if rows:
                        word = rows[0][at + 1]
                        equation = [(65536 - word) % 65536] + [0] * (width - 1)
                        equation[at + 1] = 1
                        self.assertEqual(known.get(name) == word, contains(told, width, tuple(equation)))
                        self.assertIn(known.get(name), (None, word))
                    equals = []
                    for place, other in enumerate(found):
                        equation = [0] * width
                        equation[at + 1] = 65535
                        equation[place + 1] = (equation[place + 1] + 1) % 65536
                        if contains(told, width, tuple(equation)):
                            equals.append(other)
                    self.assertEqual(equal_at(graph, block, name), tuple(equals))
                if block not in whole:
                    self.assertEqual(known, {})


def with_names(many):
    """Return a graph with so many names."""
    names = [f"n{at}" for at in range(many)]
    return ((names[0],), ((tuple(("ask", name) for name in names), ("give", names[-1])),))


class ArgumentsTest(unittest.TestCase):
    def test_wrong_arguments(self):
        for function in (states_at, equations_at, known_at):
            check_arguments(self, function, (L, 1), ("graph", "block"))
        check_arguments(self, breaking, (L, 1, (0,) * 10), ("graph", "block", "equation"))
        check_arguments(self, count_values, (L, (0, 1, 2)), ("graph", "way"))
        check_arguments(self, walk, (L, (0, 1, 2), (3, 1)), ("graph", "way", "values"))
        check_arguments(self, equal_at, (L, 1, "i"), ("graph", "block", "name"))

    def test_eleven_names_and_twelve(self):
        for many in (1, 10, 11):
            graph = with_names(many)
            self.assertEqual(states_at(graph, 0)[0], (1,) + (0,) * (many + 4))
            self.assertEqual(len(equations_at(graph, 0)), many + 3)
            self.assertEqual(breaking(graph, 0, (1,) + (0,) * (many + 4)), ((0,), (0,)))
            self.assertEqual(len(known_at(graph, 0)), many - 1)
            self.assertEqual(equal_at(graph, 0, "n0"), ("n0",))
        for many in (12, 13, 60):
            graph = with_names(many)
            for function in (states_at, equations_at, known_at):
                self.assertRaises(TooMany, function, graph, 0)
                for block in [1, -1] + oddities():
                    self.assertRaises(InvalidBlock, function, graph, block)
            for equation in [(0,) * (many + 5), (0,) * 16, ()] + oddities():
                self.assertRaises(TooMany, breaking, graph, 0, equation)
                self.assertRaises(InvalidBlock, breaking, graph, 1, equation)
                self.assertRaises(InvalidGraph, breaking, None, 1, equation)
            for name in ["n0", "x"] + oddities():
                self.assertRaises(TooMany, equal_at, graph, 0, name)
                self.assertRaises(InvalidBlock, equal_at, graph, True, name)
            self.assertEqual(walk(graph, (0,), (7,))[1], 7)
            self.assertEqual(count_values(graph, (0,)), 1)

    def test_names_of_choices_count(self):
        names = [f"n{at}" for at in range(10)]
        for more in (("n0",), ("x",), ("x", "y")):
            choices = tuple(("choose", name, ((0, name),)) for name in names[:-1]) + (("choose", "n9", ((0, more[-1]),)),)
            graph = ((), (((("ask", more[0]),), ("go", 1)), (choices, ("give", "n0"))))
            if len(all_names(graph)) > 11:
                self.assertRaises(TooMany, states_at, graph, 1)
            else:
                self.assertEqual(len(states_at(graph, 1)[0]), len(all_names(graph)) + 5)

    def test_names_that_stand_in_the_graph(self):
        for name in ("c", "i", "k", "n", "s"):
            self.assertIn(name, equal_at(L, 2, name))
        for name in ("x", "show", "add", "", "cc", "nn", "C"):
            self.assertRaises(InvalidName, equal_at, L, 2, name)

    def test_widths_of_equations(self):
        for width in range(18):
            if width != 10:
                self.assertRaises(InvalidRow, breaking, L, 2, (0,) * width)
        self.assertRaises(InvalidRow, breaking, D, 3, (0,) * 11)

    def test_how_many_values(self):
        for many in range(6):
            if many != 2:
                self.assertRaises(InvalidValues, walk, L, (0, 1, 2), (1,) * many)
        self.assertRaises(InvalidValues, walk, L, (0, 1, 2), [1, 2])

    def test_no_argument_is_changed(self):
        for value in ([0] * 10, {"a": [1]}):
            before = copy.deepcopy(value)
            self.assertRaises(InvalidRow, breaking, L, 0, value)
            self.assertRaises(InvalidWay, walk, L, value, value)
            self.assertRaises(InvalidValues, walk, L, (0,), value)
            self.assertEqual(value, before)


if __name__ == "__main__":
    unittest.main()
