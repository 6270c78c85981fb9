"""Points 2.2 to 2.5, 2.8 and 7: graphs."""

import copy
import random
import unittest

from flowkeep.errors import InvalidGraph
from flowkeep.graphs import count_steps, is_graph, is_plain, names
from tests.programs import ALL, D, K, L, goals_of, random_graph
from tests.samples import no_words, oddities

GIVE = ("give", "x")


def graph_of(*steps, inputs=(), end=GIVE):
    """Return the graph of one block with these steps."""
    return (inputs, ((tuple(steps), end),))


def with_choices(*steps):
    """Return a graph whose block 2 has these steps, and the comers 0 and 1."""
    return ((), (((), ("pick", "a", 1, 2)), ((), ("go", 2)), (tuple(steps), GIVE)))


def paths(value, path=()):
    """Yield the places of all parts of nested tuples, the whole among them."""
    yield path
    if isinstance(value, tuple):
        for at, part in enumerate(value):
            yield from paths(part, path + (at,))


def part_at(value, path):
    for at in path:
        value = value[at]
    return value


def with_part(value, path, part):
    """Return the value with another part at the place."""
    if not path:
        return part
    at = path[0]
    return value[:at] + (with_part(value[at], path[1:], part),) + value[at + 1:]


class IsGraphTest(unittest.TestCase):
    def test_examples(self):
        for graph in (L, D, K, ALL):
            self.assertIs(is_graph(graph), True)

    def test_every_kind_of_step(self):
        for step in (
                ("set", "x", 0), ("set", "x", 65535), ("copy", "x", "x"), ("add", "x", "y", "z"), ("sub", "x", "y", "z"),
                ("mul", "x", "x", "x"), ("times", "x", "y", 0), ("times", "x", "y", 65535), ("div", "x", "y", "z"),
                ("less", "x", "y", "z"), ("ask", "x"), ("read", "x", 0), ("read", "x", 3), ("write", 0, "y"),
                ("write", 3, "y"), ("show", "y")):
            self.assertIs(is_graph(graph_of(step)), True, step)
            self.assertIs(is_graph(graph_of(list(step))), False, step)
            self.assertIs(is_graph(graph_of(step[:-1])), False, step)
            self.assertIs(is_graph(graph_of(step + ("x",))), False, step)
            self.assertIs(is_graph(graph_of(step + (1,))), False, step)
            for at in range(len(step)):
                for part in ("", "X", -1, 65536, None, (), step):
                    self.assertIs(is_graph(graph_of(step[:at] + (part,) + step[at + 1:])), False, (step, part))

    def test_parts_of_other_kinds(self):
        for step in (
                ("set", "x", "y"), ("set", 1, "x"), ("copy", "x", 1), ("add", "x", "y", 1), ("add", "x", 1, "y"), ("mul", "x", "y", 2),
                ("times", "x", "y", "z"), ("times", "x", 2, "y"), ("div", "x", "y", 2), ("less", "x", 2, "y"), ("ask", 1),
                ("read", "x", 4), ("read", "x", -1), ("read", "x", "c"), ("read", 1, "x"), ("write", 4, "y"),
                ("write", -1, "y"), ("write", "y", 1), ("write", True, "y"), ("read", "x", True), ("set", "x", True),
                ("set", "x", 1.0), ("times", "x", "y", False), ("show", 1), ("go", 0), ("give", "x"), ("pick", "x", 0, 0),
                ("neg", "x", "y"), ("mod", "x", "y", "z"), ("Add", "x", "y", "z"), ()):
            self.assertIs(is_graph(graph_of(step)), False, step)

    def test_every_kind_of_end(self):
        for end in (("go", 0), ("pick", "y", 0, 0), ("give", "y")):
            self.assertIs(is_graph(graph_of(end=end)), True)
            self.assertIs(is_graph(graph_of(end=list(end))), False)
            self.assertIs(is_graph(graph_of(end=end[:-1])), False)
            self.assertIs(is_graph(graph_of(end=end + (0,))), False)
            self.assertIs(is_graph(graph_of(end=end + ("x",))), False)
        for end in (
                (), ("go", 1), ("go", -1), ("go", False), ("go", "x"), ("go", 0.0), ("pick", "y", 0, 1), ("pick", "y", 1, 0),
                ("pick", "y", -1, 0), ("pick", 0, 0, 0), ("pick", "y", True, 0), ("pick", "y", 0, False), ("give", 0),
                ("give", "give"), ("stop",), ("stop", "x"), ("show", "x"), ("set", "x", 0), "give", None):
            self.assertIs(is_graph(graph_of(end=end)), False, end)

    def test_goals_up_to_the_last_block(self):
        for many in (1, 2, 3, 40):
            for goal in range(-2, 43):
                blocks = (((), ("go", goal)),) + (((), GIVE),) * (many - 1)
                self.assertIs(is_graph(((), blocks)), 0 <= goal < many)
                blocks = (((), ("pick", "x", 0, goal)),) + (((), GIVE),) * (many - 1)
                self.assertIs(is_graph(((), blocks)), 0 <= goal < many)

    def test_names(self):
        right = [
            "a", "z", "a0", "z9", "abcdef", "a12345", "x1y2z3", "giv", "gives", "blocks", "cell0", "shows", "picks", "goo",
            "askx", "chose", "gives1", "choos", "g", "l", "set", "copy", "add", "stop", "going", "less", "write"]
        wrong = [
            "", "abcdefg", "a123456", "0", "0a", "9", "A", "aB", "a_", "_a", "a b", " a", "a ", "a;", "a-b", "a.b", "a\n",
            "\u00e9", "a\u00e9", "a\u0663", "a\u00b2", "\uff41", "\u017f", "given", "block", "ask", "cell", "show", "choose",
            "go", "pick", "give", "a" * 100000]
        for name in right + wrong:
            expected = name in right
            self.assertIs(is_graph(graph_of(inputs=(name,))), expected, name)
            self.assertIs(is_graph(graph_of(("ask", name))), expected, name)
            self.assertIs(is_graph(graph_of(("copy", "x", name))), expected, name)
            self.assertIs(is_graph(graph_of(("show", name))), expected, name)
            self.assertIs(is_graph(graph_of(end=("give", name))), expected, name)
            self.assertIs(is_graph(graph_of(end=("pick", name, 0, 0))), expected, name)
            self.assertIs(is_graph(with_choices(("choose", name, ((0, "a"), (1, "b"))))), expected, name)
            self.assertIs(is_graph(with_choices(("choose", "a", ((0, "a"), (1, name))))), expected, name)

    def test_words(self):
        for word in (0, 1, 65534, 65535):
            self.assertIs(is_graph(graph_of(("set", "x", word))), True)
            self.assertIs(is_graph(graph_of(("times", "x", "y", word))), True)
        for word in no_words():
            self.assertIs(is_graph(graph_of(("set", "x", word))), False)
            self.assertIs(is_graph(graph_of(("times", "x", "y", word))), False)

    def test_cells(self):
        for cell in (0, 1, 2, 3, 4, 5, -1, -4, 65536):
            self.assertIs(is_graph(graph_of(("read", "x", cell))), 0 <= cell <= 3)
            self.assertIs(is_graph(graph_of(("write", cell, "x"))), 0 <= cell <= 3)
        for cell in oddities():
            self.assertIs(is_graph(graph_of(("read", "x", cell))), False)
            self.assertIs(is_graph(graph_of(("write", cell, "x"))), False)

    def test_inputs(self):
        for many in range(7):
            self.assertIs(is_graph(graph_of(inputs=tuple("abcdefg"[:many]))), many <= 4)
        for inputs in (("a", "a"), ("a", "b", "a"), ("a", 1), ("a", None), ["a"], "ab", "a", None, {"a": 1}, (("a",),), 1):
            self.assertIs(is_graph(graph_of(inputs=inputs)), False, inputs)

    def test_blocks(self):
        for many in range(43):
            self.assertIs(is_graph(((), (((), GIVE),) * many)), 1 <= many <= 40)
        for block in ((), ((),), (GIVE, ()), ((), GIVE, ()), [(), GIVE], ([], GIVE), ((), [GIVE]), None, ("", GIVE), ({}, GIVE)):
            self.assertIs(is_graph(((), (block,))), False, block)
            self.assertIs(is_graph(((), (((), GIVE), block))), False, block)
        for blocks in ([((), GIVE)], {}, None, "", (), ((), GIVE), 1):
            self.assertIs(is_graph(((), blocks)), False, blocks)

    def test_steps(self):
        for many in (0, 1, 59, 60, 61, 62, 500):
            self.assertIs(is_graph(graph_of(*[("ask", "x")] * many)), many <= 60)

    def test_choices_count_as_steps(self):
        for many in (59, 60, 61):
            choices = [("choose", f"n{at}", ((0, "a"), (1, "b"))) for at in range(30)]
            self.assertIs(is_graph(with_choices(*choices, *[("ask", "x")] * (many - 30))), many <= 60)
            choices = [("choose", f"n{at}", ((0, "a"), (1, "b"))) for at in range(many)]
            self.assertIs(is_graph(with_choices(*choices)), many <= 60)

    def test_the_greatest_graph(self):
        comers = tuple((at, "longer") for at in range(40))
        steps = tuple(("choose", f"name{at}", comers) for at in range(60))
        blocks = [((("ask", "x"),) * 60, ("pick", "x", 39, 1))]
        blocks += [(tuple(("choose", f"x{at}", comers) for at in range(60)), ("pick", "x", 39, 1))]
        blocks += [((("ask", "x"),) * 60, ("pick", "x", 39, 1)) for _ in range(37)]
        blocks += [(steps, ("pick", "x", 39, 1))]
        self.assertIs(is_graph((("a", "b", "c", "d"), tuple(blocks))), True)
        self.assertEqual(count_steps((("a", "b", "c", "d"), tuple(blocks))), 2400)

    def test_wrong_wholes(self):
        for value in oddities() + [(), 1, (()), ((), ()), ((),), ((), (((), GIVE),), ()), (((), GIVE),), [(), (((), GIVE),)]]:
            self.assertIs(is_graph(value), False)

    def test_each_part_replaced(self):
        for graph in (ALL, D):
            for path in paths(graph):
                old = part_at(graph, path)
                for odd in oddities():
                    fits = odd == ("x",) if path == (0,) else odd == "x" and isinstance(old, str)
                    if not fits:
                        self.assertIs(is_graph(with_part(graph, path, odd)), False, (path, odd))
                if isinstance(old, tuple):
                    self.assertIs(is_graph(with_part(graph, path, list(old))), False, path)
                elif isinstance(old, int):
                    self.assertIs(is_graph(with_part(graph, path, float(old))), False, path)
                    self.assertIs(is_graph(with_part(graph, path, str(old))), False, path)

    def test_numbers_as_booleans(self):
        for path in paths(ALL):
            old = part_at(ALL, path)
            if isinstance(old, int) and old < 2:
                self.assertIs(is_graph(with_part(ALL, path, bool(old))), False, path)


class ChoicesTest(unittest.TestCase):
    def test_pairs_are_ascending_one_for_each_comer(self):
        right = ((0, "a"), (1, "b"))
        self.assertIs(is_graph(with_choices(("choose", "x", right))), True)
        for pairs in (
                (), ((0, "a"),), ((1, "a"),), ((1, "b"), (0, "a")), ((0, "a"), (0, "a")), ((0, "a"), (1, "b"), (2, "c")),
                ((0, "a"), (1, "b"), (1, "b")), ((0, "a"), (2, "b")), ((0, "a"), (0, "b"), (1, "c")), list(right),
                ([0, "a"], (1, "b")), ((0, "a"), ("1", "b")), ((0, "a"), (1, 2)), ((False, "a"), (1, "b")),
                ((0, "a"), (True, "b")), ((0.0, "a"), (1, "b")), ((0, "a", "b"), (1, "b")), ((0,), (1, "b")), (0, "a", 1, "b"),
                "ab", None, {0: "a", 1: "b"}, ((0, "a"), None), ("0a", "1b"), (("a", 0), ("b", 1)), 5):
            self.assertIs(is_graph(with_choices(("choose", "x", pairs))), False, pairs)

    def test_a_pick_with_equal_goals_is_one_comer(self):
        blocks = [((), ("pick", "a", 1, 1)), ((("choose", "x", ((0, "a"),)),), GIVE)]
        self.assertIs(is_graph(((), tuple(blocks))), True)
        blocks[1] = ((("choose", "x", ((0, "a"), (0, "a"))),), GIVE)
        self.assertIs(is_graph(((), tuple(blocks))), False)

    def test_comers_that_cant_be_come_to_count(self):
        blocks = [((), ("go", 2)), ((), ("go", 2)), ((("choose", "x", ((0, "a"), (1, "b"))),), GIVE)]
        self.assertIs(is_graph(((), tuple(blocks))), True)
        blocks[2] = ((("choose", "x", ((0, "a"),)),), GIVE)
        self.assertIs(is_graph(((), tuple(blocks))), False)

    def test_a_block_can_be_its_own_comer(self):
        blocks = (((), ("go", 1)), ((("choose", "x", ((0, "a"), (1, "x"))),), ("go", 1)))
        self.assertIs(is_graph(((), blocks)), True)

    def test_a_block_without_comers(self):
        self.assertIs(is_graph(((), (((), GIVE), ((("choose", "x", ()),), GIVE)))), True)
        self.assertIs(is_graph(((), (((), GIVE), ((("choose", "x", ((0, "a"),)),), GIVE)))), False)

    def test_none_in_block_0(self):
        self.assertIs(is_graph(graph_of(("choose", "x", ()))), False)
        self.assertIs(is_graph(graph_of(("choose", "x", ((0, "x"),)), end=("go", 0))), False)

    def test_they_stand_ahead_of_other_steps(self):
        one = ("choose", "x", ((0, "a"), (1, "b")))
        other = ("choose", "y", ((0, "a"), (1, "x")))
        self.assertIs(is_graph(with_choices(one, other, ("ask", "x"))), True)
        self.assertIs(is_graph(with_choices(one, ("ask", "x"), other)), False)
        self.assertIs(is_graph(with_choices(("ask", "x"), one)), False)

    def test_they_give_unlike_names(self):
        one = ("choose", "x", ((0, "a"), (1, "b")))
        self.assertIs(is_graph(with_choices(one, one)), False)
        self.assertIs(is_graph(with_choices(one, ("choose", "y", ((0, "a"), (1, "b"))), one)), False)
        self.assertIs(is_graph(with_choices(one, ("ask", "x"))), True)

    def test_wrong_choices(self):
        for step in (
                ("choose",), ("choose", "x"), ("choose", "x", ((0, "a"), (1, "b")), 1), ("choose", ((0, "a"), (1, "b")), "x"),
                ("choose", 1, ((0, "a"), (1, "b"))), ["choose", "x", ((0, "a"), (1, "b"))],
                ("choose", None, ((0, "a"), (1, "b"))), ("choose", ("x",), ((0, "a"), (1, "b"))),
                ("choose", ["x"], ((0, "a"), (1, "b"))), ("chose", "x", ((0, "a"), (1, "b")))):
            self.assertIs(is_graph(with_choices(step)), False, step)

    def test_random_graphs_and_other_comers(self):
        chance = random.Random(1)
        for _ in range(300):
            graph = random_graph(chance)
            self.assertIs(is_graph(graph), True, graph)
            blocks = list(graph[1])
            at = chance.randrange(len(blocks))
            blocks[at] = (blocks[at][0], ("go", chance.randrange(len(blocks))))
            right = True
            for place, (steps, _) in enumerate(blocks):
                comers = [comer for comer, block in enumerate(blocks) if place in goals_of(block[1])]
                for step in steps:
                    if step[0] == "choose" and [block for block, _ in step[2]] != comers:
                        right = False
            self.assertIs(is_graph((graph[0], tuple(blocks))), right)


class IsPlainTest(unittest.TestCase):
    def test_examples(self):
        self.assertIs(is_plain(L), True)
        self.assertIs(is_plain(D), True)
        self.assertIs(is_plain(K), True)
        self.assertIs(is_plain(ALL), False)

    def test_any_choice_counts(self):
        self.assertIs(is_plain(with_choices()), True)
        self.assertIs(is_plain(with_choices(("choose", "x", ((0, "a"), (1, "b"))))), False)
        self.assertIs(is_plain(((), (((), GIVE), ((("choose", "x", ()),), GIVE)))), False)

    def test_random_graphs(self):
        chance = random.Random(2)
        for _ in range(200):
            graph = random_graph(chance)
            plain = not any(step[0] == "choose" for steps, _ in graph[1] for step in steps)
            self.assertIs(is_plain(graph), plain)
            self.assertIs(is_plain(random_graph(chance, False)), True)

    def test_no_graphs(self):
        for value in oddities() + [(), 1, with_choices(("choose", "x", ())), graph_of(("go", 0))]:
            self.assertIs(is_plain(value), False)


class NamesTest(unittest.TestCase):
    def test_examples(self):
        self.assertEqual(names(L), ("c", "i", "k", "n", "s"))
        self.assertEqual(names(D), ("a", "b", "x", "y", "z"))
        self.assertEqual(names(K), ("c", "i", "k", "n"))
        self.assertEqual(names(ALL), tuple("abcdmnqruvwxyz"))

    def test_each_place(self):
        cases = [
            (graph_of(inputs=("q",)), "q"), (graph_of(("set", "q", 1)), "q"), (graph_of(("ask", "q")), "q"),
            (graph_of(("copy", "x", "q")), "q"), (graph_of(("copy", "q", "x")), "q"), (graph_of(("show", "q")), "q"),
            (graph_of(("write", 0, "q")), "q"), (graph_of(("read", "q", 0)), "q"), (graph_of(end=("give", "q")), "q"),
            (graph_of(end=("pick", "q", 0, 0)), "q"), (graph_of(end=("go", 0)), None),
            (graph_of(("times", "x", "q", 5)), "q"), (graph_of(("times", "q", "x", 5)), "q"),
        ]
        for kind in ("add", "sub", "mul", "div", "less"):
            cases += [(graph_of((kind, "q", "x", "x")), "q"), (graph_of((kind, "x", "q", "x")), "q")]
            cases += [(graph_of((kind, "x", "x", "q")), "q")]
        cases += [(((), (((), ("go", 0)), ((("choose", "q", ()),), ("go", 0)))), "q")]
        for graph, name in cases:
            self.assertEqual([one for one in names(graph) if one != "x"], [name] if name else [], graph)
        graph = with_choices(("choose", "m", ((0, "q"), (1, "z"))))
        self.assertEqual(names(graph), ("a", "m", "q", "x", "z"))

    def test_ascending_by_signs(self):
        self.assertEqual(
            names(graph_of(("add", "b", "a10", "a9"), ("add", "a", "b2", "ab"))), ("a", "a10", "a9", "ab", "b", "b2", "x"))

    def test_no_graphs(self):
        for value in oddities() + [(), 1, graph_of(("go", 0))]:
            with self.assertRaises(InvalidGraph):
                names(value)


class CountStepsTest(unittest.TestCase):
    def test_examples(self):
        self.assertEqual(count_steps(L), 6)
        self.assertEqual(count_steps(D), 5)
        self.assertEqual(count_steps(K), 5)
        self.assertEqual(count_steps(ALL), 18)

    def test_edges(self):
        self.assertEqual(count_steps(graph_of()), 0)
        self.assertEqual(count_steps(((), ((((("ask", "x"),) * 60), GIVE),) * 40)), 2400)

    def test_no_graphs(self):
        for value in oddities() + [(), 1, graph_of(*[("ask", "x")] * 61)]:
            with self.assertRaises(InvalidGraph):
                count_steps(value)

    def test_no_argument_is_changed(self):
        for value in ([(), [[[], ["give", "x"]]]], ((), [((), GIVE)]), {"a": [((), GIVE)]}):
            before = copy.deepcopy(value)
            self.assertIs(is_graph(value), False)
            self.assertIs(is_plain(value), False)
            for call in (names, count_steps):
                with self.assertRaises(InvalidGraph):
                    call(value)
            self.assertEqual(value, before)


if __name__ == "__main__":
    unittest.main()
