"""Points 1 (e), 2.6, 2.7, 2.8, 3 and 16: constants."""

import random
import unittest

from flowkeep.constants import constants, entered, folded
from flowkeep.errors import InvalidGraph, NotSingle
from flowkeep.single import is_single, single
from flowkeep.texts import format_graph, parse_graph
from tests.arguments import NO_GRAPHS, check_arguments
from tests.plains import random_plain
from tests.programs import ALL, D, K, L, goals_of
from tests.singles import check_meaning, drawn, given_values, random_single
from tests.slow import step_gives, step_reads, told_single

KINDS = ("set", "set", "set", "copy", "copy", "add", "sub", "mul", "times", "div", "less", "less", "ask", "read", "show")
MANY = "several"


def joined_value(one, other):
    """Return what a name has that has both; None is nothing."""
    if one is None or other is None or one == other:
        return one if other is None else other
    return MANY


def told_result(step, has):
    """Return what a step other than a choice gives, if the names have these values."""
    kind = step[0]
    if kind == "set":
        return step[2]
    values = [has.get(name) for name in step_reads(step)]
    if kind in ("ask", "read") or MANY in values:
        return MANY
    if None in values:
        return None
    one, other = values[0], step[3] if kind == "times" else values[-1]
    return {
        "copy": lambda: one, "add": lambda: one + other, "sub": lambda: one - other, "mul": lambda: one * other,
        "times": lambda: one * other, "div": lambda: one // other, "less": lambda: int(one < other)}[kind]() % 65536


def told_constants(graph):
    """Return what the names have, the blocks that are entered, and the edges that are gone, by rounds over the whole graph.

    Each round starts from nothing but what the round before has found.
    """
    inputs, blocks = graph
    has, came, gone = {name: MANY for name in inputs}, {0}, set()
    while True:
        new, more = dict(has), set(gone)
        for at in came:
            steps, end = blocks[at]
            for step in steps:
                if step[0] == "div" and has.get(step[3]) in (None, 0):
                    break
                if step[0] == "choose":
                    for comer, name in step[2]:
                        if (comer, at) in gone:
                            new[step[1]] = joined_value(new.get(step[1]), has.get(name))
                elif step_gives(step):
                    new[step[1]] = joined_value(new.get(step[1]), told_result(step, has))
            else:
                if end[0] == "go":
                    more.add((at, end[1]))
                elif end[0] == "pick" and has.get(end[1]) is not None:
                    word = has[end[1]]
                    more |= {(at, goal) for goal in (end[2:] if word == MANY else end[2:3] if word else end[3:])}
        new = {name: word for name, word in new.items() if word is not None}
        if new == has and more == gone:
            return has, came, gone
        has, gone, came = new, more, {0} | {goal for _, goal in more}


def words(text):
    """Return the constants of the graph with this text, as a string."""
    return " ".join(f"{name}={word}" for name, word in constants(parse_graph(text)))


def folded_text(text):
    return format_graph(folded(parse_graph(text)))


class ExamplesTest(unittest.TestCase):
    def test_examples(self):
        self.assertEqual(constants(single(K)), (("v0", 0), ("v1", 6), ("v2", 2)))
        self.assertEqual(entered(single(K)), (0, 1, 2, 3))
        self.assertEqual(folded(single(K)), single(K))


class ConstantsTest(unittest.TestCase):
    def test_kinds_of_steps(self):
        text = "given a;block 0;x = 5;y = 3;{};give x"
        cases = {
            "z = x": "z=5", "z = x + y": "z=8", "z = y - x": "z=65534", "z = x * y": "z=15", "z = x * 20000": "z=34464",
            "z = x / y": "z=1", "z = y < x": "z=1", "z = x < y": "z=0", "z = ask": "", "z = cell 0": "", "z = a": "",
            "z = x + a": "", "z = a * x": "", "z = a - a": "", "z = a * 0": "", "z = a < a": "", "cell 0 = x;z = cell 0": "",
            "z = a;w = z + x": "", "z = x / a": "", "z = a / x": "", "w = x - x;z = w * a": "w=0",
        }
        for steps, expected in cases.items():
            self.assertEqual(words(text.format(steps)), " ".join(sorted(["x=5", "y=3"] + expected.split())), steps)

    def test_inputs_have_several(self):
        self.assertEqual(words("given a b;block 0;give a"), "")

    def test_choices(self):
        text = "given a;block 0;x = 5;y = {};pick a 1 2;block 1;go 3;block 2;go 3;block 3;z = choose 1 x 2 {};give z"
        self.assertEqual(words(text.format(5, "y")), "x=5 y=5 z=5")
        self.assertEqual(words(text.format(6, "y")), "x=5 y=6")
        self.assertEqual(words(text.format(6, "x")), "x=5 y=6 z=5")
        self.assertEqual(words(text.format(6, "a")), "x=5 y=6")

    def test_picks_on_constants(self):
        text = "given a;block 0;c = {};x = 1;y = 2;pick c 1 2;block 1;go 3;block 2;go 3;block 3;z = choose 1 x 2 y;give z"
        self.assertEqual(words(text.format(7)), "c=7 x=1 y=2 z=1")
        self.assertEqual(words(text.format(0)), "c=0 x=1 y=2 z=2")
        self.assertEqual(words(text.format("a")), "x=1 y=2")
        self.assertEqual(entered(parse_graph(text.format(7))), (0, 1, 3))
        self.assertEqual(entered(parse_graph(text.format(0))), (0, 2, 3))
        self.assertEqual(entered(parse_graph(text.format("a"))), (0, 1, 2, 3))

    def test_names_of_blocks_that_are_not_entered_are_not_constant(self):
        self.assertEqual(words("given;block 0;c = 0;pick c 1 2;block 1;x = 4;give x;block 2;give c"), "c=0")

    def test_names_that_stay_as_they_are_in_a_loop(self):
        # The value is 1 as long as nothing else is found, and so nothing else is.
        text = (
            "given a;block 0;i = 1;n = 2;go 1;block 1;x = choose 0 i 3 y;c = x < n;pick c 2 4;block 2;go 3;"
            "block 3;y = choose 2 {};pick a 1 5;block 4;z = 9;go 5;block 5;w = choose 3 y 4 z;give w")
        self.assertEqual(words(text.format("x")), "c=1 i=1 n=2 w=1 x=1 y=1")
        self.assertEqual(entered(parse_graph(text.format("x"))), (0, 1, 2, 3, 5))
        self.assertEqual(words(text.format("n")), "i=1 n=2 y=2 z=9")
        self.assertEqual(entered(parse_graph(text.format("n"))), (0, 1, 2, 3, 4, 5))

    def test_a_loop_that_is_left_at_once(self):
        text = "given;block 0;i = 0;k = 1;go 1;block 1;x = choose 0 i 2 y;pick x 2 3;block 2;y = x + k;go 1;block 3;give x"
        self.assertEqual(words(text), "i=0 k=1 x=0")
        self.assertEqual(entered(parse_graph(text)), (0, 1, 3))

    def test_nothing_is_given_behind_a_quotient_by_0(self):
        text = "given a;block 0;z = {};x = 1;q = x / z;y = 2;go 1;block 1;give y"
        self.assertEqual(words(text.format(0)), "x=1 z=0")
        self.assertEqual(entered(parse_graph(text.format(0))), (0,))
        self.assertEqual(words(text.format(3)), "q=0 x=1 y=2 z=3")
        self.assertEqual(words(text.format("a")), "x=1 y=2")
        self.assertEqual(entered(parse_graph(text.format("a"))), (0, 1))

    def test_a_divisor_that_turns_out_to_have_several(self):
        text = (
            "given a;block 0;z = 0;k = 1;go 1;block 1;d = choose 0 z 3 e;pick a 2 4;block 2;q = k / d;s = 8;go 3;"
            "block 3;{};go 1;block 4;give d")
        # As long as d is 0, nothing comes from block 3, and so d stays 0.
        self.assertEqual(words(text.format("e = 5")), "d=0 k=1 z=0")
        self.assertEqual(entered(parse_graph(text.format("e = 5"))), (0, 1, 2, 4))
        text = text.replace("d = choose 0 z 3 e", "d = choose 0 a 3 e")
        self.assertEqual(words(text.format("e = 5")), "e=5 k=1 s=8 z=0")

    def test_a_pick_with_equal_goals(self):
        text = "given a;block 0;c = {};pick c 1 1;block 1;x = choose 0 c;give x"
        self.assertEqual(words(text.format(3)), "c=3 x=3")
        self.assertEqual(words(text.format("a")), "")

    def test_values_at_the_ends_of_words(self):
        self.assertEqual(words("given;block 0;x = 65535;y = 1;z = x + y;w = z - y;give w"), "w=65535 x=65535 y=1 z=0")

    def test_names_are_compared_as_strings(self):
        self.assertEqual(constants(parse_graph("given;block 0;v9 = 1;v10 = 2;give v9")), (("v10", 2), ("v9", 1)))

    def test_long_rows_of_choices(self):
        blocks = ["block 0;x0 = 7;pick a 1 1"]
        for at in range(1, 39):
            blocks.append(f"block {at};x{at} = choose {at - 1} x{at - 1};pick a {at + 1} {at + 1}")
        text = "given a;" + ";".join(blocks) + ";block 39;x39 = choose 38 x38;give x39"
        self.assertEqual(len(constants(parse_graph(text))), 40)

    def test_random_graphs(self):
        chance = random.Random(1)
        found = left = 0
        for number in range(400):
            graph = random_single(chance, 6, 4, KINDS) if number % 2 else single(random_plain(chance, 6, 4, kinds=KINDS))
            has, came, _ = told_constants(graph)
            told = tuple(sorted((name, word) for name, word in has.items() if word != MANY))
            self.assertEqual(constants(graph), told)
            self.assertEqual(entered(graph), tuple(sorted(came)))
            found += any(steps[0][0] == "choose" and dict(told).get(steps[0][1]) is not None for steps, _ in graph[1] if steps)
            left += len(came) < len(graph[1])
        self.assertGreater(found, 20)
        self.assertGreater(left, 50)

    def test_constants_have_their_values_whenever_they_are_given(self):
        chance = random.Random(2)
        compared = 0
        for number in range(200):
            graph = random_single(chance, 6, 4, KINDS) if number % 2 else single(random_plain(chance, 6, 4, kinds=KINDS))
            known = dict(constants(graph))
            came = entered(graph)
            for _ in range(3):
                for block, name, word in given_values(graph, *drawn(chance, graph), 200):
                    self.assertIn(block, came)
                    if name in known:
                        self.assertEqual(word, known[name])
                        compared += 1
        self.assertGreater(compared, 2000)


class FoldedTest(unittest.TestCase):
    def test_constants_are_set(self):
        self.assertEqual(
            folded_text("given a;block 0;x = 2;y = x;z = x + y;w = z * a;show w;c = x < z;pick c 1 2;block 1;d = c / x;show d;give z;block 2;give a"),
            "given a;block 0;x = 2;y = 2;z = 4;w = z * a;show w;c = 1;go 1;block 1;d = 0;show d;give z")

    def test_choices_that_are_constant_stand_behind_the_others(self):
        found = folded(parse_graph(
            "given a;block 0;x = 2;y = 2;z = 3;pick a 1 2;block 1;go 3;block 2;go 3;"
            "block 3;p = choose 1 x 2 y;q = choose 1 x 2 z;r = choose 1 a 2 a;s = p + q;give s"))
        steps = found[1][3][0]
        self.assertEqual(steps[:2], (("choose", "q", ((1, "x"), (2, "z"))), ("choose", "r", ((1, "a"), (2, "a")))))
        self.assertEqual(steps[2:], (("set", "p", 2), ("add", "s", "p", "q")))

    def test_pairs_of_edges_that_are_not_gone_go(self):
        self.assertEqual(
            folded_text(
                "given a b;block 0;c = 0;pick a 1 2;block 1;pick c 3 4;block 2;go 3;block 3;x = choose 1 a 2 b;y = choose 1 a 2 a;go 4;"
                "block 4;z = choose 1 a 3 x;give z"),
            "given a b;block 0;c = 0;pick a 1 2;block 1;go 4;block 2;go 3;block 3;x = choose 2 b;y = choose 2 a;go 4;"
            "block 4;z = choose 1 a 3 x;give z")

    def test_a_quotient_by_0_ends_a_block(self):
        text = "given a;block 0;z = {};x = 1;show x;q = a / x;r = q / z;show r;w = 2;s = r / z;go 1;block 1;give w"
        self.assertEqual(folded_text(text.format(0)), "given a;block 0;z = 0;x = 1;show x;q = a / x;r = q / z;give z")
        self.assertEqual(
            folded_text(text.format(2)), "given a;block 0;z = 2;x = 1;show x;q = a / x;r = q / z;show r;w = 2;s = r / z;go 1;block 1;give w")

    def test_a_quotient_by_a_choice_that_is_0(self):
        self.assertEqual(
            folded_text("given a;block 0;y = 0;pick a 1 1;block 1;z = choose 0 y;w = choose 0 a;q = w / z;show q;give q"),
            "given a;block 0;y = 0;pick a 1 1;block 1;w = choose 0 a;z = 0;q = w / z;give z")

    def test_a_pick_with_equal_goals_on_a_constant(self):
        self.assertEqual(
            folded_text("given a;block 0;c = 1;pick c 1 1;block 1;pick a 2 2;block 2;give a"),
            "given a;block 0;c = 1;go 1;block 1;pick a 2 2;block 2;give a")

    def check_folded(self, graph, chance):
        has, came, gone = told_constants(graph)
        known = {name: word for name, word in has.items() if word != MANY}
        found = folded(graph)
        self.assertIs(is_single(found), True)
        if len(found[1]) < 6:
            self.assertIs(told_single(found), True)
        self.assertEqual(found[0], graph[0])
        numbers = {old: new for new, old in enumerate(sorted(came))}
        self.assertEqual(len(found[1]), len(came))
        for old, new in numbers.items():
            steps, end = graph[1][old]
            its_steps, its_end = found[1][new]
            places = [place for place, step in enumerate(steps) if step[0] == "div" and known.get(step[3]) == 0]
            if places:
                steps, end = steps[:places[0] + 1], ("give", steps[places[0]][3])
            elif end[0] == "pick" and end[1] in known:
                end = ("go", end[2] if known[end[1]] else end[3])
            self.assertEqual(its_end, tuple(numbers[part] if isinstance(part, int) else part for part in end))
            expected = []
            for step in steps:
                if step_gives(step) in known:
                    expected.append(("set", step[1], known[step[1]]))
                elif step[0] == "choose":
                    expected.append((
                        "choose", step[1], tuple((numbers[comer], name) for comer, name in step[2] if (comer, old) in gone)))
                else:
                    expected.append(step)
            self.assertEqual(sorted(map(repr, its_steps)), sorted(map(repr, expected)))
            others = [step for step in its_steps if step[0] not in ("choose", "set")]
            self.assertEqual(others, [step for step in expected if step[0] not in ("choose", "set")])
        check_meaning(self, graph, found, chance, 3, 150)
        return found

    def test_random_graphs(self):
        chance = random.Random(3)
        changed = 0
        for number in range(300):
            graph = random_single(chance, 6, 4, KINDS) if number % 2 else single(random_plain(chance, 6, 4, kinds=KINDS))
            changed += self.check_folded(graph, chance) != graph
        self.assertGreater(changed, 100)

    def test_no_pick_on_a_constant_is_left(self):
        chance = random.Random(4)
        for _ in range(100):
            found = folded(random_single(chance, 6, 3, ("set", "set", "less", "copy", "add")))
            known = dict(constants(found))
            for steps, end in found[1]:
                self.assertFalse(end[0] == "pick" and end[1] in known)
                for step in steps:
                    if step_gives(step) in known:
                        self.assertEqual(step, ("set", step[1], known[step[1]]))
            self.assertEqual(entered(found), tuple(range(len(found[1]))))
            self.assertEqual(folded(found), found)
            self.assertEqual({goal for _, end in found[1] for goal in goals_of(end)} | {0}, set(range(len(found[1]))))

    def test_the_greatest_graphs(self):
        steps = [("set", "n0", 1)] + [("add", f"n{at}", f"n{at - 1}", "n0") for at in range(1, 60)]
        blocks = [(tuple(steps), ("go", 1))]
        for block in range(1, 40):
            first = 60 * block
            steps = [("add", f"n{at}", "n0", f"n{at - 1}") for at in range(first, first + 60)]
            blocks.append((tuple(steps), ("pick", f"n{first}", block + 1, block + 1) if block < 39 else ("give", f"n{first + 59}")))
        graph = ((), tuple(blocks))
        self.assertEqual(dict(constants(graph)), {f"n{at}": at + 1 for at in range(2400)})
        self.assertEqual(folded(graph)[1][39][0][59], ("set", "n2399", 2400))


class ArgumentsTest(unittest.TestCase):
    def test_wrong_arguments(self):
        for function in (constants, entered, folded):
            check_arguments(self, function, (single(L),), ("single",))
            for graph in NO_GRAPHS:
                self.assertRaises(InvalidGraph, function, graph)
            for graph in (L, D, K, ALL, parse_graph("given;block 0;go 0"), parse_graph("given x;block 0;give x;block 1;give x")):
                self.assertRaises(NotSingle, function, graph)


if __name__ == "__main__":
    unittest.main()
