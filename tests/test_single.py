"""Points 2.7, 2.8 and 14: single form, and back."""

import itertools
import random
import unittest

from flowkeep.errors import NotPlain, TooMany
from flowkeep.graphs import is_graph, is_plain
from flowkeep.running import count_run, run, visits
from flowkeep.single import in_sequence, is_single, plain, single
from flowkeep.texts import format_graph, parse_graph
from tests.arguments import NO_GRAPHS, check_arguments
from tests.programs import ALL, D, K, L, NESTED, ODD, TANGLE, goals_of, random_graph, random_step, told_run
from tests.samples import oddities
from tests.singles import check_meaning, drawn, random_single
from tests.slow import (
    edges_of, end_reads, reached, rows_from, rulers_left_out, step_gives, step_reads, told_fringe, told_live,
    told_single)

SINGLE_L = (
    "given v0;block 0;v1 = 0;v2 = 0;v3 = 1;go 1;block 1;v4 = choose 0 v2 2 v8;v5 = choose 0 v1 2 v7;v6 = v4 < v0;pick v6 2 3;"
    "block 2;v7 = v5 + v0;v8 = v4 + v3;go 1;block 3;show v5;give v4")


def singled(text):
    """Return the text of what single makes of the graph with this text."""
    return format_graph(single(parse_graph(text)))


def lots(many, start=0):
    """Return so many steps that give unlike names."""
    return ";".join(f"m{at} = ask" for at in range(start, start + many))


def line(many, *last):
    """Return a graph of so many blocks in a line, with last steps in the last one."""
    blocks = tuple(((), ("go", at + 1)) for at in range(many - 1))
    return (("a", "b"), blocks + ((tuple(last), ("give", "a")),))


class ExamplesTest(unittest.TestCase):
    def test_examples(self):
        self.assertEqual(format_graph(single(L)), SINGLE_L)
        self.assertIs(is_single(L), False)
        self.assertEqual(
            in_sequence((("a", "b"), ("b", "a")), "t"), [("copy", "t", "a"), ("copy", "a", "b"), ("copy", "b", "t")])
        self.assertEqual(
            format_graph(plain(single(L))),
            "given v0;block 0;v1 = 0;v2 = 0;v3 = 1;v4 = v2;v5 = v1;go 1;block 1;v6 = v4 < v0;pick v6 2 3;"
            "block 2;v7 = v5 + v0;v8 = v4 + v3;v4 = v8;v5 = v7;go 1;block 3;show v5;give v4")


class SingleTest(unittest.TestCase):
    def test_other_examples(self):
        self.assertEqual(
            format_graph(single(D)),
            "given v0 v1;block 0;pick v0 1 2;block 1;v2 = v0 + v1;go 3;block 2;v3 = v0 + v1;v4 = v3;go 3;"
            "block 3;v5 = choose 1 v2 2 v4;v6 = v0 + v1;show v6;give v5")
        self.assertEqual(
            format_graph(single(K)),
            "given;block 0;v0 = 0;v1 = 6;v2 = 2;go 1;block 1;v3 = choose 0 v0 2 v5;v4 = v3 < v1;pick v4 2 3;"
            "block 2;v5 = v3 + v2;go 1;block 3;give v3")

    def test_every_kind_of_step(self):
        self.assertEqual(
            singled(
                "given a b;block 0;a = 7;c = a;c = c + b;c = c - a;c = c * b;c = c * 3;c = c / a;c = c < b;c = ask;c = cell 3;"
                "cell 2 = c;show a;give c"),
            "given v0 v1;block 0;v2 = 7;v3 = v2;v4 = v3 + v1;v5 = v4 - v2;v6 = v5 * v1;v7 = v6 * 3;v8 = v7 / v2;v9 = v8 < v1;"
            "v10 = ask;v11 = cell 3;cell 2 = v11;show v2;give v11")

    def test_names_live_at_block_0(self):
        self.assertEqual(singled("given b;block 0;x = z + a;show b;give y"), (
            "given v0;block 0;v1 = 0;v2 = 0;v3 = 0;v4 = v3 + v1;show v0;give v2"))
        self.assertEqual(singled("given b;block 0;x = 1;give x"), "given v0;block 0;v1 = 1;give v1")

    def test_blocks_that_cant_be_come_to_go(self):
        self.assertEqual(
            singled("given a;block 0;go 2;block 1;a = 1;go 2;block 2;give a"), "given v0;block 0;go 1;block 1;give v0")
        self.assertEqual(
            singled("given a;block 0;x = x;give a;block 1;go 0"), "given v0;block 0;v1 = 0;v2 = v1;give v0")

    def test_block_0_with_comers(self):
        self.assertEqual(
            singled("given a;block 0;a = a + b;pick a 0 1;block 1;give a"),
            "given v0;block 0;v1 = 0;go 1;block 1;v2 = choose 0 v0 1 v3;v3 = v2 + v1;pick v3 1 2;block 2;give v3")
        self.assertEqual(
            singled("given;block 0;go 0"), "given;block 0;go 1;block 1;go 1")

    def test_inputs_that_are_given_again(self):
        self.assertEqual(
            singled("given a b;block 0;pick a 1 2;block 1;b = 3;go 2;block 2;give b"),
            "given v0 v1;block 0;pick v0 1 2;block 1;v2 = 3;go 2;block 2;v3 = choose 0 v1 1 v2;give v3")

    def test_names_that_are_not_live_need_no_choice(self):
        self.assertEqual(
            singled("given a;block 0;pick a 1 2;block 1;x = 3;y = 4;go 2;block 2;x = 5;show y;give x"),
            "given v0;block 0;v1 = 0;pick v0 1 2;block 1;v2 = 3;v3 = 4;go 2;block 2;v4 = choose 0 v1 1 v3;v5 = 5;show v4;give v5")

    def test_choices_of_choices(self):
        self.assertEqual(
            singled(
                "given a;block 0;x = 1;pick a 1 4;block 1;pick a 2 3;block 2;x = 2;go 3;block 3;go 4;block 4;give x"),
            "given v0;block 0;v1 = 1;pick v0 1 4;block 1;pick v0 2 3;block 2;v2 = 2;go 3;block 3;v3 = choose 1 v1 2 v2;go 4;"
            "block 4;v4 = choose 0 v1 3 v3;give v4")

    def test_a_pick_with_equal_goals_is_one_comer(self):
        self.assertEqual(
            singled("given a;block 0;pick a 1 2;block 1;x = 1;pick x 2 2;block 2;give x"),
            "given v0;block 0;v1 = 0;pick v0 1 2;block 1;v2 = 1;pick v2 2 2;block 2;v3 = choose 0 v1 1 v2;give v3")

    def test_values_that_swap(self):
        self.assertEqual(
            singled("given a b;block 0;c = a;go 1;block 1;t = a;a = b;b = t;c = c - a;pick c 1 2;block 2;give b"),
            "given v0 v1;block 0;v2 = v0;go 1;block 1;v3 = choose 0 v0 1 v7;v4 = choose 0 v1 1 v8;v5 = choose 0 v2 1 v9;"
            "v6 = v3;v7 = v4;v8 = v6;v9 = v5 - v7;pick v9 1 2;block 2;give v8")

    def test_single_form_of_graphs_with_new_names(self):
        self.assertEqual(
            singled("given v1 v0;block 0;v1 = v0;v9 = v1;give v2"), "given v0 v1;block 0;v2 = 0;v3 = v1;v4 = v3;give v2")

    def test_random_graphs(self):
        chance = random.Random(1)
        for number in range(500):
            graph = random_graph(chance, False, (2, 4, 5)[number % 3], (1, 3, 6)[number % 3])
            found = single(graph)
            self.assertIs(is_single(found), True)
            if len(found[1]) < 6:
                self.assertIs(told_single(found), True)
            self.check_steps(with_zeros(graph), found)
            check_meaning(self, graph, found, chance, 4, 100)
            self.assertEqual(single(graph), found)

    def check_steps(self, graph, found):
        """Check the renamed graph step by step, and that read names are those given last on each way."""
        due = told_due(graph)
        many = len(graph[0])
        self.assertEqual(found[0], tuple(f"v{at}" for at in range(many)))
        for at, (steps, _) in enumerate(found[1]):
            choices = [step for step in steps if step[0] == "choose"]
            self.assertEqual(len(choices), len(due[at]))
            self.assertEqual(len(steps) - len(choices), len(graph[1][at][0]))
            for step in steps:
                if step_gives(step):
                    self.assertEqual(step_gives(step), f"v{many}")
                    many += 1
        for way in rows_from(graph, 0, len(graph[1]) + 2):
            self.check_way(graph, found, due, way)

    def check_way(self, graph, found, due, way):
        last = dict(zip(graph[0], found[0]))
        came = None
        for at in way:
            steps, end = graph[1][at]
            renamed = found[1][at][0]
            choices = renamed[:len(due[at])]
            for name, choice in zip(due[at], choices):
                self.assertEqual(dict(choice[2])[came], last[name])
            last.update({name: choice[1] for name, choice in zip(due[at], choices)})
            for step, new in zip(steps, renamed[len(due[at]):]):
                self.assertEqual(step_reads(new), [last[name] for name in step_reads(step)])
                self.assertEqual(new[0], step[0])
                self.assertEqual([part for part in new if isinstance(part, int)], [part for part in step if isinstance(part, int)])
                if step_gives(step):
                    last[step_gives(step)] = step_gives(new)
            self.assertEqual(end_reads(found[1][at][1]), [last[name] for name in end_reads(end)])
            came = at


def with_zeros(graph):
    """Return the graph behind the first three steps of making single form."""
    left = sorted(reached(graph, [0]))
    more = int(any(0 in edges_of(graph)[at] for at in left))
    numbers = {old: new + more for new, old in enumerate(left)}
    blocks = [
        (graph[1][at][0], tuple(numbers[part] if isinstance(part, int) else part for part in graph[1][at][1])) for at in left]
    if more:
        blocks = [((), ("go", 1))] + blocks
    zeros = tuple(("set", name, 0) for name in told_live((graph[0], blocks), 0) if name not in graph[0])
    blocks[0] = (zeros + blocks[0][0], blocks[0][1])
    return (graph[0], tuple(blocks))


def told_due(graph):
    """Return the names of which choices are due in each block, ascending."""
    ruled = rulers_left_out(graph)
    many = len(graph[1])
    fringes = [told_fringe(graph, ruled, block) for block in range(many)]
    found = [[] for _ in range(many)]
    names = set(graph[0]) | {step_gives(step) for steps, _ in graph[1] for step in steps} - {None}
    for name in sorted(names):
        blocks = {at for at, (steps, _) in enumerate(graph[1]) if name in [step_gives(step) for step in steps]}
        if name in graph[0]:
            blocks.add(0)
        whole = set()
        for _ in range(many + 1):
            whole |= {goal for block in blocks | whole for goal in fringes[block]}
        for block in sorted(whole):
            if name in told_live(graph, block):
                found[block].append(name)
    return found


class SizesTest(unittest.TestCase):
    def test_sixty_steps(self):
        # A step for z more, where it is live.
        for name, more in (("a", 0), ("z", 1)):
            for many in (58, 59, 60):
                graph = parse_graph(f"given a;block 0;{lots(many)};give {name}")
                if many + more > 60:
                    self.assertRaises(TooMany, single, graph)
                else:
                    self.assertEqual(len(single(graph)[1][0][0]), many + more)

    def test_sixty_steps_with_choices(self):
        for many in (58, 59, 60):
            text = f"given a b;block 0;go 1;block 1;b = b + a;{lots(many - 1)};pick b 1 2;block 2;give b"
            if many < 60:
                self.assertEqual(len(single(parse_graph(text))[1][1][0]), many + 1)
            else:
                self.assertRaises(TooMany, single, parse_graph(text))

    def test_steps_of_blocks_that_cant_be_come_to_do_not_count(self):
        graph = parse_graph(f"given a;block 0;give a;block 1;{lots(60)};go 0")
        self.assertEqual(format_graph(single(graph)), "given v0;block 0;give v0")

    def test_forty_blocks(self):
        self.assertEqual(len(single(line(40))[1]), 40)
        back = (line(40)[0], line(40)[1][:-1] + (((), ("go", 0)),))
        self.assertRaises(TooMany, single, back)
        back = (line(39)[0], line(39)[1][:-1] + (((), ("go", 0)),))
        self.assertEqual(len(single(back)[1]), 40)
        # A block that can't be come to makes room for the new one.
        back = (line(40)[0], line(39)[1][:-1] + (((), ("go", 0)), ((), ("give", "a"))))
        self.assertEqual(len(single(back)[1]), 40)

    def test_the_greatest_graphs(self):
        chance = random.Random(2)
        blocks = []
        for at in range(40):
            steps = []
            while len(steps) < 60:
                step = random_step(chance)
                if step_gives(step) is None or at:
                    steps.append(step)
            blocks.append((tuple(steps[:54]), ("pick", "a", (at + 1) % 40 or 1, chance.randrange(1, 40))))
        graph = (("a", "b"), tuple(blocks))
        found = single(graph)
        self.assertIs(is_single(found), True)
        check_meaning(self, graph, found, chance, 3, 3000)


class IsSingleTest(unittest.TestCase):
    def check(self, text, expected):
        self.assertIs(is_single(parse_graph(text)), expected, text)

    def test_any_value(self):
        for value in NO_GRAPHS + oddities() + [single, (L,), [L], "given;block 0;give x"]:
            self.assertIs(is_single(value), False)
        for graph in (L, D, K, ALL, ODD, TANGLE, NESTED):
            self.assertIs(is_single(graph), False)
        for graph in (L, D, K, ODD, TANGLE, NESTED):
            self.assertIs(is_single(single(graph)), True)

    def test_names_are_given_once(self):
        self.check("given a;block 0;x = a;give x", True)
        self.check("given a;block 0;x = a;x = a;give x", False)
        self.check("given a;block 0;a = a;give a", False)
        self.check("given a;block 0;pick a 1 2;block 1;x = a;give x;block 2;x = a;give x", False)
        self.check("given a;block 0;go 1;block 1;a = choose 0 a;give a", False)
        self.check("given a;block 0;go 1;block 1;x = choose 0 a;x = ask;give x", False)
        self.check("given a;block 0;give a", True)

    def test_names_are_given_ahead(self):
        self.check("given;block 0;give x", False)
        self.check("given;block 0;x = y;y = 1;give x", False)
        self.check("given;block 0;x = x;give x", False)
        self.check("given;block 0;y = 1;x = y;give x", True)
        self.check("given;block 0;show y;y = 1;give y", False)
        self.check("given;block 0;cell 1 = y;y = 1;give y", False)
        self.check("given;block 0;y = 1;cell 1 = y;go 1;block 1;show y;give y", True)
        self.check("given a;block 0;pick a 1 2;block 1;x = 1;go 3;block 2;y = 2;go 3;block 3;give x", False)
        self.check("given a;block 0;pick a 1 2;block 1;x = 1;go 3;block 2;give a;block 3;give x", True)
        self.check("given a;block 0;pick a 1 2;block 1;x = 1;give x;block 2;give x", False)
        self.check("given a;block 0;pick x 1 2;block 1;x = 1;give x;block 2;give a", False)

    def test_choices_count_as_earlier(self):
        self.check("given a;block 0;go 1;block 1;x = choose 0 a;y = x;pick x 2 2;block 2;give x", True)
        # In the last pair the block itself takes the place of the block, with all its steps.
        self.check("given a;block 0;go 1;block 1;x = choose 0 a 1 y;y = a;pick y 1 2;block 2;give y", True)
        self.check("given a;block 0;go 1;block 1;x = choose 0 y 1 y;y = a;pick y 1 2;block 2;give y", False)
        self.check("given a;block 0;go 1;block 1;x = choose 0 a 1 x;pick x 1 2;block 2;give x", True)
        self.check("given a;block 0;go 1;block 1;x = choose 0 a 1 z;z = choose 0 a 1 x;pick x 1 2;block 2;give x", True)
        self.check("given a;block 0;go 1;block 1;x = choose 0 z 1 z;z = choose 0 a 1 x;pick x 1 2;block 2;give x", False)

    def test_pairs_read_at_the_end_of_their_blocks(self):
        text = "given a;block 0;pick a 1 2;block 1;x = 1;go 3;block 2;y = 2;go 3;block 3;z = choose 1 {} 2 {};give z"
        self.check(text.format("x", "y"), True)
        self.check(text.format("a", "y"), True)
        self.check(text.format("y", "x"), False)
        self.check(text.format("x", "x"), False)
        self.check(text.format("z", "y"), False)
        self.check(text.format("w", "y"), False)

    def test_blocks(self):
        self.check("given a;block 0;give a;block 1;give a", False)
        self.check("given a;block 0;pick a 0 1;block 1;give a", False)
        self.check("given a;block 0;go 1;block 1;pick a 0 1", False)
        self.check("given a;block 0;go 1;block 1;go 1", True)

    def test_random_graphs(self):
        chance = random.Random(3)
        for _ in range(400):
            graph = random_single(chance, 5, 4)
            self.assertIs(told_single(graph), True)
            self.assertIs(is_single(graph), True)
            for _ in range(4):
                other = with_other_name(chance, graph)
                self.assertIs(is_single(other), told_single(other), other)
        for _ in range(300):
            graph = random_graph(chance, True, 4, 2)
            self.assertIs(is_single(graph), told_single(graph))


def with_other_name(chance, graph):
    """Return the graph with one of its names, somewhere, replaced by another one."""
    text = format_graph(graph)
    words = text.replace(";", " ; ").split(" ")
    places = [at for at, word in enumerate(words) if word[0] == "n"]
    for _ in range(50):
        at = chance.choice(places)
        words[at] = words[chance.choice(places)]
        try:
            return parse_graph(" ".join(words).replace(" ; ", ";"))
        except ValueError:
            words = text.replace(";", " ; ").split(" ")
    return graph


class InSequenceTest(unittest.TestCase):
    def check(self, pairs, spare="t"):
        steps = in_sequence(pairs, spare)
        self.assertIsInstance(steps, list)
        names = {name for pair in pairs for name in pair} | {spare}
        values = {name: f"old {name}" for name in names}
        for kind, name, source in steps:
            self.assertEqual(kind, "copy")
            values[name] = values[source]
        told = {name: source for name, source in pairs}
        for name in names - {spare}:
            self.assertEqual(values[name], f"old {told.get(name, name)}")
        unlike = {name: source for name, source in pairs if name != source}
        rings = set()
        for name in unlike:
            ring = [name]
            while unlike.get(ring[-1]) not in (None, *ring):
                ring.append(unlike[ring[-1]])
            if unlike.get(ring[-1]) == name:
                rings.add(tuple(sorted(ring)))
        self.assertEqual(len(steps), len(unlike) + len(rings), pairs)

    def test_small_cases(self):
        self.assertEqual(in_sequence((), "t"), [])
        self.assertEqual(in_sequence([("a", "a")], "t"), [])
        self.assertEqual(in_sequence([("a", "b")], "t"), [("copy", "a", "b")])
        self.assertEqual(in_sequence((("a", "b"), ("b", "c")), "t"), [("copy", "a", "b"), ("copy", "b", "c")])
        self.assertEqual(in_sequence((("b", "c"), ("a", "b")), "t"), [("copy", "a", "b"), ("copy", "b", "c")])
        self.assertEqual(len(in_sequence([("a", "b"), ("b", "c"), ("c", "a")], "t")), 4)
        self.assertEqual(len(in_sequence([("a", "b"), ("b", "a"), ("c", "d"), ("d", "c")], "t")), 6)

    def test_all_of_up_to_four_names(self):
        for many in range(5):
            names = "abcd"[:many]
            for sources in itertools.product("abcde"[:many + 1], repeat=many):
                self.check(tuple(zip(names, sources)))
                self.check([list(pair) for pair in zip(reversed(names), sources)])

    def test_chains_that_end_in_rings(self):
        self.check((("a", "b"), ("b", "c"), ("c", "b"), ("d", "c"), ("e", "d"), ("f", "f")))
        self.check((("x", "a"), ("a", "b"), ("b", "a"), ("y", "b"), ("c", "d"), ("d", "e"), ("e", "c"), ("z", "x")), "spare")

    def test_long_chains_and_rings(self):
        chance = random.Random(4)
        names = [f"n{at}" for at in range(60)]
        self.check(tuple(zip(names, names[1:])))
        self.check(tuple(zip(names[1:], names)))
        self.check(list(zip(names, names[1:] + names[:1])))
        for _ in range(5):
            self.check(tuple(zip(names, chance.sample(names, 60))))
        names = [f"n{at}" for at in range(4000)]
        self.assertEqual(len(in_sequence(tuple(zip(names, names[1:])), "t")), 3999)
        self.assertEqual(len(in_sequence(tuple(zip(names[1:], names)), "t")), 3999)
        self.assertEqual(len(in_sequence(list(zip(names, names[1:] + names[:1])), "t")), 4001)

    def test_random_pairs(self):
        chance = random.Random(5)
        for _ in range(400):
            names = chance.sample([f"n{at}" for at in range(12)], chance.randrange(10))
            self.check(tuple((name, f"n{chance.randrange(12)}") for name in names))

    def test_no_argument_is_changed(self):
        pairs = [("a", "b"), ("b", "a"), ("c", "c")]
        in_sequence(pairs, "t")
        self.assertEqual(pairs, [("a", "b"), ("b", "a"), ("c", "c")])


def plained(text):
    """Return the text of what plain makes of the graph with this text."""
    return format_graph(plain(parse_graph(text)))


class PlainTest(unittest.TestCase):
    def test_plain_graphs_stay(self):
        for graph in (L, D, K, ODD, TANGLE, NESTED):
            self.assertEqual(plain(graph), graph)

    def test_copies_behind(self):
        self.assertEqual(
            plained("given a b;block 0;pick a 1 2;block 1;c = 1;go 3;block 2;go 3;block 3;x = choose 1 c 2 b;y = choose 1 y 2 x;give x"),
            "given a b;block 0;pick a 1 2;block 1;c = 1;x = c;go 3;block 2;y = x;x = b;go 3;block 3;give x")

    def test_copies_ahead(self):
        self.assertEqual(
            plained("given a b;block 0;pick a 1 2;block 1;x = choose 0 b;show x;give x;block 2;y = choose 0 b;give y"),
            "given a b;block 0;pick a 1 2;block 1;x = b;show x;give x;block 2;y = b;give y")

    def test_blocks_for_edges(self):
        self.assertEqual(
            plained("given a b;block 0;pick a 1 2;block 1;go 2;block 2;x = choose 0 a 1 b;show x;pick x 3 2;block 3;give b".replace(
                "0 a 1 b", "0 a 1 b 2 x")),
            "given a b;block 0;pick a 1 4;block 1;x = b;go 2;block 2;show x;pick x 3 2;block 3;give b;block 4;x = a;go 2")

    def test_no_block_without_copies(self):
        self.assertEqual(
            plained("given a b;block 0;pick a 1 2;block 1;a = b;go 2;block 2;a = choose 0 a 1 a;give a"),
            "given a b;block 0;pick a 1 2;block 1;a = b;go 2;block 2;give a")

    def test_a_pick_with_equal_goals(self):
        self.assertEqual(
            plained("given a b;block 0;pick a 1 1;block 1;a = choose 0 b 1 a;b = choose 0 a 1 a;pick a 1 2;block 2;give b"),
            "given a b;block 0;t0 = a;a = b;b = t0;pick a 1 1;block 1;pick a 3 2;block 2;give b;block 3;b = a;go 1")

    def test_choices_that_swap(self):
        graph = parse_graph(
            "given a b n;block 0;k = 1;go 1;block 1;x = choose 0 a 2 y;y = choose 0 b 2 x;i = choose 0 n 2 j;pick i 2 3;"
            "block 2;j = i - k;go 1;block 3;show x;give y")
        self.assertIs(is_single(graph), True)
        found = plain(graph)
        self.assertEqual(
            format_graph(found),
            "given a b n;block 0;k = 1;x = a;y = b;i = n;go 1;block 1;pick i 2 3;block 2;j = i - k;i = j;t0 = x;x = y;y = t0;go 1;"
            "block 3;show x;give y")
        for many in range(5):
            self.assertEqual(run(found, (7, 8, many), (), 1000), run(graph, (7, 8, many), (), 1000))

    def test_the_spare_name_is_new(self):
        text = "given a b;block 0;t0 = a;t1 = b;go 1;block 1;t0 = choose 0 t1 1 t1;t1 = choose 0 t0 1 t0;pick a 1 2;block 2;give t2"
        self.assertEqual(
            plained(text),
            "given a b;block 0;t0 = a;t1 = b;t3 = t0;t0 = t1;t1 = t3;go 1;block 1;pick a 3 2;block 2;give t2;"
            "block 3;t3 = t0;t0 = t1;t1 = t3;go 1")

    def test_blocks_that_cant_be_come_to_stay(self):
        self.assertEqual(
            plained("given a;block 0;give a;block 1;x = choose 1 a 2 x;pick x 1 2;block 2;y = choose 1 x;go 1;block 3;z = choose;give z"),
            "given a;block 0;give a;block 1;pick x 4 2;block 2;y = x;go 1;block 3;give z;block 4;x = a;go 1")

    def check_plain(self, graph, found):
        """Check all that the document tells of the new graph but its meaning."""
        self.assertIs(is_plain(found), True)
        many = len(graph[1])
        self.assertEqual(found[0], graph[0])
        copies = needed = 0
        for at, (steps, _) in enumerate(graph[1]):
            choices = [step for step in steps if step[0] == "choose"]
            others = steps[len(choices):]
            new = found[1][at][0]
            self.assertTrue(any(
                new[start:start + len(others)] == others
                and all(step[0] == "copy" for step in new[:start] + new[start + len(others):])
                for start in range(len(new) - len(others) + 1)))
            copies -= len(others)
            for comer in range(many):
                if at in goals_of(graph[1][comer][1]):
                    more = len(in_sequence([(step[1], dict(step[2])[comer]) for step in choices], "t"))
                    copies -= more
                    comers = sum(at in goals_of(end) for _, end in graph[1])
                    needed += more > 0 and len(goals_of(graph[1][comer][1])) > 1 and comers > 1
        copies += sum(len(steps) for steps, _ in found[1])
        self.assertEqual(copies, 0)
        self.assertEqual(len(found[1]), many + needed)
        for steps, end in found[1][many:]:
            self.assertTrue(steps)
            self.assertEqual({step[0] for step in steps}, {"copy"})
            self.assertEqual(end[0], "go")
            self.assertLess(end[1], many)

    def test_random_graphs(self):
        chance = random.Random(6)
        for number in range(500):
            if number % 2:
                graph = random_single(chance, 6, 4)
            else:
                graph = random_graph(chance, True, 6, 4)
            found = plain(graph)
            self.check_plain(graph, found)
            check_meaning(self, graph, found, chance, 5, 120)

    def test_there_and_back(self):
        chance = random.Random(7)
        for _ in range(150):
            graph = random_graph(chance, False, 5, 5)
            found = plain(single(graph))
            self.check_plain(single(graph), found)
            check_meaning(self, graph, found, chance, 4, 200)
            again = single(found)
            check_meaning(self, graph, again, chance, 2, 200)

    def test_forty_blocks_and_one_more(self):
        def crossing(many):
            """Return a graph of so many blocks in which one edge needs a block of its own."""
            blocks = [((), ("pick", "a", 1, 2)), ((), ("go", 2)), ((("choose", "x", ((0, "a"), (1, "b"))),), ("go", 3))]
            blocks += [((), ("go", at + 1)) for at in range(3, many - 1)]
            return (("a", "b"), tuple(blocks) + (((), ("give", "x")),))
        self.assertEqual(len(plain(crossing(39))[1]), 40)
        self.assertRaises(TooMany, plain, crossing(40))

    def test_sixty_steps_and_one_more(self):
        # Both comers of block 3 have one goal each, so that its copies stand behind their steps.
        text = "given a b;block 0;pick a 1 2;block 1;{};go 3;block 2;go 3;block 3;x = choose 1 a 2 b;y = choose 1 b 2 a;give x"
        for many in (0, 57, 58):
            self.assertEqual(len(plain(parse_graph(text.format(lots(many) or "show a")))[1][1][0]), max(many, 1) + 2)
        for many in (59, 60):
            self.assertRaises(TooMany, plain, parse_graph(text.format(lots(many))))
        # Choices that go make room for copies.
        chosen = ";".join(f"x{at} = choose 0 x{at + 1}" for at in range(60))
        self.assertEqual(len(plain(parse_graph(f"given a;block 0;pick a 1 2;block 1;{chosen};give x0;block 2;give a"))[1][1][0]), 60)
        chosen = ";".join(f"x{at} = choose 0 x{(at + 1) % 60}" for at in range(60))
        self.assertRaises(TooMany, plain, parse_graph(f"given a;block 0;pick a 1 2;block 1;{chosen};give x0;block 2;give a"))


class TextsAndRunsTest(unittest.TestCase):
    def test_graphs_in_single_form(self):
        chance = random.Random(8)
        for number in range(200):
            graph = random_single(chance) if number % 2 else single(random_graph(chance, False, 5, 4))
            self.assertEqual(parse_graph(format_graph(graph)), graph)
            self.assertIs(is_graph(graph), True)
            for most in (0, 1, 7, 50, 200):
                values, answers = drawn(chance, graph)
                shown, end, entered, count = told_run(graph, values, answers, most)
                self.assertEqual(run(graph, values, answers, most), (shown, end))
                self.assertEqual(visits(graph, values, answers, most), entered)
                self.assertEqual(count_run(graph, values, answers, most), count)

    def test_examples(self):
        graph = parse_graph(SINGLE_L)
        self.assertEqual(run(graph, (3,), (), 100), ((9,), ("give", 3)))
        self.assertEqual(visits(graph, (1,), (), 100), (0, 1, 2, 1, 3))
        self.assertEqual(count_run(graph, (1,), (), 100), 17)


class ArgumentsTest(unittest.TestCase):
    def test_wrong_arguments(self):
        check_arguments(self, single, (L,), ("plain",))
        check_arguments(self, plain, (L,), ("graph",))
        check_arguments(self, plain, (ALL,), ("graph",))

    def test_single_takes_no_choices(self):
        self.assertRaises(NotPlain, single, single(L))
        # Without the choice it would have too many blocks.
        blocks = line(40)[1][:-1] + (((), ("go", 0)),)
        self.assertRaises(TooMany, single, (("a",), blocks))
        blocks = blocks[:5] + (((("choose", "x", ((4, "a"),)),), ("go", 6)),) + blocks[6:]
        self.assertRaises(NotPlain, single, (("a",), blocks))


if __name__ == "__main__":
    unittest.main()
