"""Points 1 (e), 2.8 and 15: names with equal values."""

import random
import unittest

from flowkeep.classes import classes, shared
from flowkeep.errors import InvalidGraph, NotSingle
from flowkeep.single import is_single, single
from flowkeep.texts import format_graph, parse_graph
from tests.arguments import NO_GRAPHS, check_arguments
from tests.programs import ALL, D, K, L, random_graph
from tests.singles import check_meaning, drawn, random_single
from tests.slow import end_reads, rulers_left_out, step_gives, step_reads, told_single

KINDS = ("set", "copy", "add", "sub", "mul", "times", "add", "less", "div", "ask", "read", "write", "show")


def givers_of(graph):
    """Return the steps that give each name, with their blocks and places, and None for inputs."""
    found = {name: None for name in graph[0]}
    for at, (steps, _) in enumerate(graph[1]):
        for place, step in enumerate(steps):
            if step_gives(step):
                found[step_gives(step)] = (step, at, place)
    return found


def root(givers, name):
    while givers[name] and givers[name][0][0] == "copy":
        name = givers[name][0][2]
    return name


def alike(givers, one, other, same):
    """Return whether two unlike roots may be in one class, if `same` tells of two names whether they are."""
    if givers[one] is None or givers[other] is None:
        return False
    step, at, _ = givers[one]
    its, where, _ = givers[other]
    if step[0] != its[0] or step[0] in ("ask", "read"):
        return False
    if step[0] == "set":
        return step[2] == its[2]
    if step[0] == "times":
        return step[3] == its[3] and same(step[2], its[2])
    if step[0] == "choose":
        return at == where and all(same(mine, other) for (_, mine), (_, other) in zip(step[2], its[2]))
    straight = same(step[2], its[2]) and same(step[3], its[3])
    if step[0] in ("add", "mul"):
        return straight or same(step[2], its[3]) and same(step[3], its[2])
    return straight


def fits(graph, division):
    """Return whether the classes fit."""
    givers = givers_of(graph)
    number = {name: at for at, names in enumerate(division) for name in names}

    def same(one, other):
        return number[one] == number[other]
    for name in givers:
        if not same(name, root(givers, name)):
            return False
    roots = [name for name in givers if root(givers, name) == name]
    return all(alike(givers, one, other, same) for one in roots for other in roots if one != other and same(one, other))


def divisions(names):
    """Yield all divisions of the names into classes."""
    if not names:
        yield []
        return
    for division in divisions(names[1:]):
        yield [[names[0]]] + division
        for at in range(len(division)):
            yield division[:at] + [[names[0]] + division[at]] + division[at + 1:]


def told_classes(graph):
    """Return the classes, by taking pairs of names apart until nothing changes."""
    givers = givers_of(graph)
    names = sorted(givers)
    together = {(one, other) for one in names for other in names}

    def same(one, other):
        return (one, other) in together
    while True:
        apart = set()
        for one, other in together:
            mine, its = root(givers, one), root(givers, other)
            if mine != its and not alike(givers, mine, its, same):
                apart.add((one, other))
        if not apart:
            break
        together -= apart
    return tuple(sorted({tuple(other for other in names if (one, other) in together) for one in names}))


def told_ahead(graph, other, name):
    """Return whether the other name stands ahead of the name."""
    givers = givers_of(graph)
    if givers[name] is None or givers[other] is None:
        return givers[name] is not None
    _, block, place = givers[other]
    step, at, where = givers[name]
    if block == at:
        return place < where and step[0] != "choose"
    return block in rulers_left_out(graph)[at]


def of(text):
    """Return the classes of the graph with this text, without those of one name."""
    return [" ".join(names) for names in classes(parse_graph(text)) if len(names) > 1]


class ExamplesTest(unittest.TestCase):
    def test_examples(self):
        self.assertEqual(classes(single(D)), (("v0",), ("v1",), ("v2", "v3", "v4", "v6"), ("v5",)))


class ClassesTest(unittest.TestCase):
    def test_kinds_of_steps(self):
        steps = {
            "x = 5;y = 5;z = 6": "x y", "x = a;y = a;z = x": "a x y z", "x = a + b;y = b + a;z = a + a": "x y",
            "x = a * b;y = b * a;z = a + b": "x y", "x = a - b;y = a - b;z = b - a": "x y", "x = a < b;y = a < b;z = b < a": "x y",
            "x = a / b;y = a / b;z = b / a": "x y", "x = a * 3;y = a * 3;z = a * 4": "x y", "x = a * 3;y = b * 3;z = b * 3": "y z",
            "x = ask;y = ask;z = y": "y z", "x = cell 1;y = cell 1;z = y": "y z", "x = 0;y = a - a;z = b - b": "",
            "x = 3;y = a * x;z = a * 3": "",
        }
        for text, expected in steps.items():
            found = of(f"given a b;block 0;{text};give z")
            self.assertEqual(found, [expected] if expected else [], text)

    def test_read_names_of_one_class(self):
        self.assertEqual(of("given a b;block 0;c = a;x = a + b;y = b + c;z = x * y;w = y * x;give w"), ["a c", "w z", "x y"])
        self.assertEqual(of("given a b;block 0;x = a - b;y = a - b;p = x < a;q = y < a;give q"), ["p q", "x y"])

    def test_inputs_are_never_together(self):
        self.assertEqual(classes(parse_graph("given b a;block 0;give a")), (("a",), ("b",)))

    def test_names_are_compared_as_strings(self):
        self.assertEqual(
            classes(parse_graph("given v2 v10;block 0;v9 = v10;v1 = v2;give v1")), (("v1", "v2"), ("v10", "v9")))

    def test_counts_of_a_loop(self):
        text = (
            "given n;block 0;z = 0;{0} = 0;k = 1;go 1;block 1;i = choose 0 z 2 i2;j = choose 0 {0} 2 j2;c = i < n;pick c 2 3;"
            "block 2;i2 = i + k;j2 = {1} + {2};go 1;block 3;give i")
        self.assertEqual(of(text.format("w", "j", "k")), ["i j", "i2 j2", "w z"])
        self.assertEqual(of(text.format("w", "k", "j")), ["i j", "i2 j2", "w z"])
        self.assertEqual(of(text.format("w", "k", "i")), ["i j", "i2 j2", "w z"])
        self.assertEqual(of(text.format("w", "j", "j")), ["w z"])
        self.assertEqual(of(text.format("w", "j", "k").replace("w = 0", "w = 1")), ["k w"])

    def test_a_ring_of_choices(self):
        text = (
            "given a b;block 0;go 1;block 1;x = choose 0 a 1 y;y = choose 0 a 1 z;z = choose 0 {} 1 x;pick x 1 2;block 2;give x")
        self.assertEqual(of(text.format("a")), ["x y z"])
        self.assertEqual(of(text.format("b")), [])

    def test_choices_of_two_blocks_are_apart(self):
        text = "given a b;block 0;pick a 1 2;block 1;x = choose 0 b;y = choose 0 b;give x;block 2;z = choose 0 b;give z"
        self.assertEqual(of(text), ["x y"])

    def test_choices_that_fall_apart_one_after_the_other(self):
        choices = ";".join(f"x{at} = choose 0 a 1 x{at - 1}" for at in range(1, 30))
        text = f"given a b;block 0;go 1;block 1;x0 = choose 0 a 1 {{}};{choices};pick a 1 2;block 2;give x0"
        self.assertEqual(len(classes(parse_graph(text.format("a")))), 32)
        self.assertEqual(len(of(text.format("x5"))), 1)
        self.assertEqual(len(classes(parse_graph(text.format("b")))), 32)

    def test_set_words_of_choices(self):
        text = (
            "given a;block 0;p = 1;q = 1;pick a 1 2;block 1;r = 2;go 3;block 2;s = 2;go 3;"
            "block 3;x = choose 1 p 2 s;y = choose 1 q 2 r2;give x;")
        text = text.replace("r2", "t").replace("s = 2;", "s = 2;t = 2;")[:-1]
        self.assertEqual(of(text), ["p q", "r s t", "x y"])

    def test_all_divisions_of_small_graphs(self):
        chance = random.Random(1)
        many = 0
        while many < 60:
            graph = random_single(chance, 3, 3, KINDS[:9])
            names = sorted(givers_of(graph))
            if 3 <= len(names) <= 7:
                many += 1
                fitting = [division for division in divisions(names) if fits(graph, division)]
                least = min(len(division) for division in fitting)
                best = [division for division in fitting if len(division) == least]
                self.assertEqual(len(best), 1)
                self.assertEqual(classes(graph), tuple(sorted(tuple(sorted(one)) for one in best[0])))

    def test_random_graphs(self):
        chance = random.Random(2)
        found = 0
        for number in range(250):
            graph = random_single(chance, 5, 4, KINDS) if number % 2 else single(random_graph(chance, False, 4, 4))
            told = classes(graph)
            self.assertEqual(told, told_classes(graph))
            self.assertIs(fits(graph, told), True)
            found += any(len(names) > 2 for names in told)
        self.assertGreater(found, 20)

    def test_names_of_one_class_have_equal_values(self):
        chance = random.Random(3)
        compared = 0
        for number in range(250):
            graph = random_single(chance, 6, 4, KINDS) if number % 2 else single(random_graph(chance, False, 5, 4))
            givers = givers_of(graph)
            ruled = rulers_left_out(graph)
            pairs = [
                (one, other) for names in classes(graph) for one in names for other in names
                if one < other and givers[one] and givers[other]]
            for _ in range(3):
                for block, named in entries(graph, *drawn(chance, graph)):
                    for one, other in pairs:
                        blocks = {givers[one][1], givers[other][1]}
                        if block not in blocks and blocks <= ruled[block]:
                            self.assertEqual(named[one], named[other])
                            compared += 1
        self.assertGreater(compared, 1000)


def entries(graph, values, answers):
    """Yield the blocks that a run enters, and the values of the names there, behind the choices."""
    named = dict(zip(graph[0], values))
    cells, waiting = [0] * 4, list(answers)
    block, came = 0, None
    for _ in range(40):
        steps, end = graph[1][block]
        named.update({step[1]: named[dict(step[2])[came]] for step in steps if step[0] == "choose"})
        yield block, dict(named)
        for step in steps:
            get = [named[part] if isinstance(part, str) and part in named else part for part in step]
            kind = step[0]
            if kind == "div" and get[3] == 0:
                return
            if kind == "write":
                cells[step[1]] = get[2]
            elif kind not in ("show", "choose"):
                named[step[1]] = {
                    "set": lambda: get[2], "copy": lambda: get[2], "add": lambda: get[2] + get[3], "sub": lambda: get[2] - get[3],
                    "mul": lambda: get[2] * get[3], "times": lambda: get[2] * get[3], "div": lambda: get[2] // get[3],
                    "less": lambda: int(get[2] < get[3]), "ask": lambda: waiting.pop(0) if waiting else 0,
                    "read": lambda: cells[step[2]],
                }[kind]() % 65536
        if end[0] == "give":
            return
        came = block
        block = end[1] if end[0] == "go" else end[2] if named[end[1]] else end[3]


def shared_text(text):
    return format_graph(shared(parse_graph(text)))


class SharedTest(unittest.TestCase):
    def test_examples(self):
        self.assertEqual(
            format_graph(shared(single(D))),
            "given v0 v1;block 0;pick v0 1 2;block 1;v2 = v0 + v1;go 3;block 2;v3 = v0 + v1;v4 = v3;go 3;"
            "block 3;v5 = choose 1 v2 2 v3;v6 = v0 + v1;show v6;give v5")
        self.assertEqual(shared(single(K)), single(K))

    def test_in_one_block(self):
        self.assertEqual(
            shared_text("given a b;block 0;x = a + b;y = b + a;z = y * y;w = x * y;show w;give y"),
            "given a b;block 0;x = a + b;y = x;z = x * x;w = z;show z;give x")

    def test_in_a_block_that_rules(self):
        self.assertEqual(
            shared_text("given a b;block 0;y = a / b;pick a 1 2;block 1;x = a / b;show x;give x;block 2;c = y;d = c;pick d 3 3;block 3;give d"),
            "given a b;block 0;y = a / b;pick a 1 2;block 1;x = y;show y;give y;block 2;c = y;d = y;pick y 3 3;block 3;give y")

    def test_not_in_a_block_that_does_not_rule(self):
        text = "given a b;block 0;pick a 1 2;block 1;x = a + b;show x;go 3;block 2;go 3;block 3;y = a + b;give y"
        self.assertEqual(shared_text(text), text)

    def test_copies_of_inputs(self):
        self.assertEqual(
            shared_text("given a b;block 0;x = a;go 1;block 1;y = choose 0 x 1 z;z = x;pick y 1 2;block 2;cell 1 = z;give z"),
            "given a b;block 0;x = a;go 1;block 1;y = choose 0 a 1 a;z = a;pick y 1 2;block 2;cell 1 = a;give a")

    def test_choices_stay(self):
        text = "given a b;block 0;go 1;block 1;x = choose 0 a 1 y;y = choose 0 a 1 x;z = x;w = y;show x;show y;pick z 1 2;block 2;give w"
        found = parse_graph(shared_text(text))
        self.assertEqual(found[1][1][0][:2], parse_graph(text)[1][1][0][:2])
        self.assertEqual([step[0] for step in found[1][1][0]], ["choose", "choose", "copy", "copy", "show", "show"])
        for step in found[1][1][0][2:4]:
            self.assertIn(step[2], ("x", "y"))
        self.assertIn(found[1][1][1][1], ("x", "y"))
        self.assertIn(found[1][2][1][1], ("x", "y"))

    def test_counts_of_a_loop(self):
        self.assertEqual(
            shared_text(
                "given n;block 0;z = 0;w = 0;k = 1;go 1;block 1;i = choose 0 z 2 i2;j = choose 0 w 2 j2;c = i < n;pick c 2 3;"
                "block 2;i2 = i + k;j2 = k + j;go 1;block 3;give j"),
            "given n;block 0;z = 0;w = z;k = 1;go 1;block 1;i = choose 0 z 2 i2;j = choose 0 z 2 i2;c = i < n;pick c 2 3;"
            "block 2;i2 = i + k;j2 = i2;go 1;block 3;give j")

    def check_shared(self, graph, chance, times):
        found = shared(graph)
        self.assertIs(is_single(found), True)
        if len(found[1]) < 6:
            self.assertIs(told_single(found), True)
        told = {name: names for names in classes(graph) for name in names}
        self.assertEqual(classes(found), classes(graph))
        led = {name: [other for other in told[name] if told_ahead(found, other, name)] for name in told}
        for steps, end in found[1]:
            for step in steps:
                read = [name for _, name in step[2]] if step[0] == "choose" else step_reads(step)
                for name in read:
                    self.assertEqual(led[name], [], (name, graph))
                if step_gives(step) and led[step_gives(step)] and step[0] != "choose":
                    self.assertEqual(step[0], "copy")
            for name in end_reads(end):
                self.assertEqual(led[name], [])
        check_meaning(self, graph, found, chance, times, 150)
        self.assertEqual(shared(found), found)
        return found

    def test_random_graphs(self):
        chance = random.Random(4)
        changed = 0
        for number in range(250):
            graph = random_single(chance, 5, 4, KINDS) if number % 2 else single(random_graph(chance, False, 5, 4))
            changed += self.check_shared(graph, chance, 4) != graph
        self.assertGreater(changed, 50)

    def test_quotients_that_stop(self):
        chance = random.Random(5)
        for _ in range(150):
            self.check_shared(random_single(chance, 4, 4, ("div", "div", "copy", "show", "less", "set")), chance, 6)

    def test_the_greatest_graphs(self):
        steps = [("set", "n0", 1)] + [("add", f"n{at}", f"n{at - 1}", "n0") for at in range(1, 60)]
        blocks = [(tuple(steps), ("go", 1))]
        for block in range(1, 40):
            first = 60 * block
            steps = [("copy", f"n{first}", "n0")] + [("add", f"n{at}", "n0", f"n{at - 1}") for at in range(first + 1, first + 60)]
            blocks.append((tuple(steps), ("go", block + 1) if block < 39 else ("give", f"n{first + 59}")))
        graph = ((), tuple(blocks))
        found = classes(graph)
        self.assertEqual(len(found), 60)
        self.assertEqual({len(names) for names in found}, {40})
        other = shared(graph)
        self.assertEqual(other[1][39][1], ("give", "n59"))
        self.assertEqual(other[1][0], blocks[0])
        self.assertEqual({step[0] for steps, _ in other[1][1:] for step in steps}, {"copy"})


class ArgumentsTest(unittest.TestCase):
    def test_wrong_arguments(self):
        for function in (classes, shared):
            check_arguments(self, function, (single(L),), ("single",))
            for graph in NO_GRAPHS:
                self.assertRaises(InvalidGraph, function, graph)
            for graph in (L, D, K, ALL, parse_graph("given;block 0;go 0"), parse_graph("given x;block 0;give x;block 1;give x")):
                self.assertRaises(NotSingle, function, graph)


if __name__ == "__main__":
    unittest.main()
