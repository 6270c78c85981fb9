"""Points 2.2, 2.4, 2.5 and 8: texts."""

import copy
import random
import unittest

from flowkeep.errors import InvalidGraph, InvalidText
from flowkeep.graphs import is_graph
from flowkeep.texts import format_graph, parse_graph
from tests.programs import ALL, ALL_TEXT, D, D_TEXT, K, K_TEXT, L, L_TEXT, random_graph
from tests.samples import oddities

PAIRS = [(L, L_TEXT), (D, D_TEXT), (K, K_TEXT), (ALL, ALL_TEXT)]
STEPS = [
    ("x = 0", ("set", "x", 0)), ("x = 65535", ("set", "x", 65535)), ("x = y", ("copy", "x", "y")), ("x = x", ("copy", "x", "x")),
    ("x = y + z", ("add", "x", "y", "z")), ("x = y - z", ("sub", "x", "y", "z")), ("x = y * z", ("mul", "x", "y", "z")),
    ("x = y * 0", ("times", "x", "y", 0)), ("x = y * 65535", ("times", "x", "y", 65535)), ("x = y / z", ("div", "x", "y", "z")),
    ("x = y < z", ("less", "x", "y", "z")), ("x = ask", ("ask", "x")), ("x = cell 0", ("read", "x", 0)),
    ("x = cell 3", ("read", "x", 3)), ("cell 0 = y", ("write", 0, "y")), ("cell 3 = y", ("write", 3, "y")),
    ("show y", ("show", "y")), ("less = write", ("copy", "less", "write")), ("set = add * mul", ("mul", "set", "add", "mul")),
]
ENDS = [("go 0", ("go", 0)), ("pick y 0 0", ("pick", "y", 0, 0)), ("give y", ("give", "y"))]


def with_line(line):
    return f"given;block 0;{line};give x"


class FormatTest(unittest.TestCase):
    def test_examples(self):
        for graph, text in PAIRS:
            self.assertEqual(format_graph(graph), text)

    def test_each_step(self):
        for text, step in STEPS:
            self.assertEqual(format_graph(((), (((step,), ("give", "x")),))), with_line(text))

    def test_each_end(self):
        for text, end in ENDS:
            self.assertEqual(format_graph(((), (((), end),))), "given;block 0;" + text)

    def test_choices_without_pairs(self):
        graph = ((), (((), ("go", 0)), ((("choose", "x", ()),), ("give", "x"))))
        self.assertEqual(format_graph(graph), "given;block 0;go 0;block 1;x = choose;give x")

    def test_inputs(self):
        self.assertEqual(format_graph((("b", "a", "d", "c"), (((), ("give", "x")),))), "given b a d c;block 0;give x")

    def test_no_graphs(self):
        for value in oddities() + [(), 1, L_TEXT, ((), (((("go", 0),), ("go", 0)),))]:
            with self.assertRaises(InvalidGraph):
                format_graph(value)


class ParseTest(unittest.TestCase):
    def test_examples(self):
        for graph, text in PAIRS:
            self.assertEqual(parse_graph(text), graph)

    def test_each_step_and_end(self):
        for text, step in STEPS:
            self.assertEqual(parse_graph(with_line(text)), ((), (((step,), ("give", "x")),)))
        for text, end in ENDS:
            self.assertEqual(parse_graph("given;block 0;" + text), ((), (((), end),)))

    def test_the_parts_have_their_kinds(self):
        graph = parse_graph(ALL_TEXT)
        self.assertIs(type(graph), tuple)
        self.assertIs(type(graph[1][0][0][0][2]), int)
        self.assertIs(is_graph(graph), True)

    def test_parsing_is_the_inverse_of_formatting(self):
        chance = random.Random(1)
        for _ in range(500):
            graph = random_graph(chance, chance.randrange(2), 8, 8)
            self.assertEqual(parse_graph(format_graph(graph)), graph)

    def test_the_greatest_text(self):
        comers = tuple((at, "longer") for at in range(40))
        steps = tuple(("choose", f"name{at:02}", comers) for at in range(60))
        blocks = [((("set", "longer", 65535),) * 60, ("pick", "longer", 39, 39))]
        blocks += [((("times", "longer", "longer", 65535),) * 60, ("pick", "longer", 39, 39)) for _ in range(38)]
        blocks += [(steps, ("pick", "longer", 39, 39))]
        graph = (("name1", "name2", "name3", "name4"), tuple(blocks))
        self.assertEqual(parse_graph(format_graph(graph)), graph)

    def test_the_greatest_number_of_choices(self):
        many = 40
        comers = [tuple((at, "longer") for at in range(many))] * 2
        blocks = [((), ("pick", "longer", 1, 39))]
        for at in range(1, many):
            pairs = comers[0] if at in (1, 39) else ()
            steps = tuple(("choose", f"name{place:02}", pairs) for place in range(60))
            blocks.append((steps, ("pick", "longer", 1, 39)))
        graph = ((), tuple(blocks))
        self.assertEqual(parse_graph(format_graph(graph)), graph)


class InvalidTextTest(unittest.TestCase):
    def check_invalid(self, text):
        with self.assertRaises(InvalidText, msg=text if isinstance(text, str) and len(text) < 1000 else "long"):
            parse_graph(text)

    def test_other_values(self):
        for value in oddities() + [(), 1, L, L_TEXT.encode(), [L_TEXT], (L_TEXT,), {L_TEXT: 1}, 10 ** 5000]:
            self.check_invalid(value)

    def test_wrong_wholes(self):
        for text in (
                "", " ", ";", "given", "given;", "given n", "given;block 0", "given;block 0;", "given;give x", "block 0;give x",
                "given;block 0;give x;", ";given;block 0;give x", "given;;block 0;give x", "given;block 0;;give x",
                "given;block 0;give x;give x", "given;block 0;give x;show x", "given;block 0;show x", "given; block 0;give x",
                "given;block 0; give x", "given;block 0;give x ", " given;block 0;give x", "given ;block 0;give x",
                "given  a;block 0;give x", "given a ;block 0;give x", "given a  b;block 0;give x", "given,block 0,give x",
                "given;block 0\ngive x", "given\n;block 0;give x", "given;block 0;give x\n", "given;block\t0;give x",
                "Given;block 0;give x", "GIVEN;BLOCK 0;GIVE X", "gives;block 0;give x", "givena;block 0;give x",
                "given given;block 0;give x", "given 1;block 0;give x", "given a a;block 0;give x",
                "given a b c d e;block 0;give x", "given abcdefg;block 0;give x", "given a,b;block 0;give x",
                "given;given;block 0;give x", "n;block 0;give x"):
            self.check_invalid(text)

    def test_blocks_are_numbered_in_sequence(self):
        for first, second in ((0, 2), (1, 0), (1, 2), (0, 0), ("00", 1), (0, "01"), ("", 1), ("a", 1), ("-0", 1), ("0 ", 1), (" 0", 1)):
            self.check_invalid(f"given;block {first};go 0;block {second};give x")
        self.check_invalid("given;block;give x")
        self.check_invalid("given;block 0 0;give x")
        self.check_invalid("given;blocks 0;give x")
        self.check_invalid("given;block 0;block 1;give x")
        self.check_invalid("given;go 0;block 1;give x")
        parse_graph("given;block 0;go 0;block 1;give x")

    def test_blocks_in_another_sequence(self):
        self.check_invalid("given;block 1;give x;block 0;go 1")

    def test_wrong_lines(self):
        for line in (
                "x", "=", "x =", "= x", "x = ", " = x", "x == y", "x=y", "x= y", "x =y", "x := y", "x = y z", "x = y +", "x = + y",
                "x = y + z + a", "x = y % z", "x = y > z", "x = y <= z", "x = y ** z", "x = y & z", "x = -y", "x = -1", "x = +1",
                "x = - y", "x = y + 1", "x = 1 + y", "x = y - 1", "x = y / 2", "x = y < 2", "x = 2 * y", "x = 2 * 3", "x = 1 < y",
                "x = y+z", "x = y +z", "x = y  + z", "x = y +  z", "x  = y", "x =  y", " x = y", "x = y ", "X = y", "x = Y",
                "x = 65536", "x = 99999", "x = 100000", "x = 01", "x = 00", "x = 007", "x = 0x1", "x = 1_0", "x = 1.0", "x = 1e1",
                "x = 1 ", "x = y * 65536", "x = y * 01", "x = y * -1", "x = y * ", "x = ask ask", "x = ask 1", "x = ask y",
                "ask = x", "ask", "ask x", "x = ask;ask", "x = cell", "x = cell 4", "x = cell -1", "x = cell 00", "x = cell c",
                "x = cell 0 0", "x = cell 0 + y", "cell 4 = y", "cell 0 = 1", "cell 0 = y + z", "cell c = y", "cell = y",
                "cell 0 y", "cell 0 =", "cell 0 = ", "cell 0 = cell 1", "cell 01 = y", "cell 0 == y", "cell 0 = ask", "show",
                "show ", "show 1", "show y z", "show  y", "show = y", "show y;", "Show y", "shows y", "x = show", "x = show y",
                "x = go", "go = x", "pick = cell 1", "give = x", "x = give", "x = block", "x = given", "given = x", "block = x",
                "x = choose", "choose = x", "choose x", "x = choose 0 y", "x = choose y", "x = pick", "5 = x", "5 = 5", "x = 5 5",
                "xxxxxxx = 1", "x = yyyyyyy", "x_y = 1", "x = \u0663", "x = \u00b2", "x = y * \u0663", "x\u00e9 = 1", "x = \uff41",
                "x = y \u00d7 z", "x\u00a0=\u00a0y", "block 1", "given a", "x = y; ", "x = y\n", "x = y\r", "x\t=\ty"):
            self.check_invalid(with_line(line))

    def test_wrong_ends(self):
        for end in (
                "go", "go ", "go 1", "go -1", "go 00", "go x", "go 0 0", "go  0", " go 0", "go 0 ", "go0", "go 0x0", "go \u0660",
                "pick", "pick y", "pick y 0", "pick y 0 0 0", "pick y 0 1", "pick y 1 0", "pick 0 0 0", "pick y x 0", "pick y 0 x",
                "pick y 00 0", "pick y  0 0", "pick y 0  0", "pick y 0 -0", "pick y -1 0", "give", "give ", "give 0", "give x y",
                "give  x", "give X", "give give", "give x + y", "stop", "end", "going", "", "show x", "x = y", "goto 0", "pick y, 0, 0"):
            self.check_invalid("given;block 0;" + end)

    def test_wrong_choices(self):
        start = "given;block 0;pick a 1 2;block 1;go 2;block 2;"
        parse_graph(start + "x = choose 0 a 1 b;give x")
        for line in (
                "x = choose", "x = choose 0", "x = choose 0 a", "x = choose 0 a 1", "x = choose 1 b 0 a", "x = choose 0 a 1 b 2 c",
                "x = choose 0 a 0 b", "x = choose a 0 b 1", "x = choose 00 a 1 b", "x = choose 0 a 01 b", "x = choose  0 a 1 b",
                "x = choose 0  a 1 b", "x = choose 0 a 1 b ", "x = choose 0 a, 1 b", "x = choose 0 1 1 b", "x = choose 0 a 1 2",
                "x = choose (0 a) (1 b)", "x = chose 0 a 1 b", "x = choose 0 a 1 b;x = choose 0 a 1 b", "y = 1;x = choose 0 a 1 b",
                "choose x 0 a 1 b", "x = choose 0 a 1 choose", "x = choose \u0660 a 1 b"):
            self.check_invalid(start + line + ";give x")
        self.check_invalid("given;block 0;x = choose;give x")
        self.check_invalid("given;block 0;x = choose 0 x;go 0")

    def test_too_many(self):
        for many in (1, 39, 40, 41, 100):
            text = "given;" + ";".join(f"block {at};give x" for at in range(many))
            if many <= 40:
                self.assertEqual(format_graph(parse_graph(text)), text)
            else:
                self.check_invalid(text)
        for many in (0, 59, 60, 61, 100):
            text = "given;block 0;" + "show x;" * many + "give x"
            if many <= 60:
                self.assertEqual(format_graph(parse_graph(text)), text)
            else:
                self.check_invalid(text)

    def test_very_many_digits(self):
        for many in (6, 100, 4299, 4300, 4301, 5000, 100000):
            for digits in ("9" * many, "1" + "0" * many, "0" * many, "0" * many + "1"):
                self.check_invalid(with_line("x = " + digits))
                self.check_invalid(with_line("x = y * " + digits))
                self.check_invalid(with_line("x = cell " + digits))
                self.check_invalid(with_line(f"cell {digits} = x"))
                self.check_invalid(f"given;block {digits};give x")
                self.check_invalid(f"given;block 0;go {digits}")
                self.check_invalid(f"given;block 0;pick x {digits} 0")
                self.check_invalid(f"given;block 0;pick x 0 {digits}")
                self.check_invalid(f"given;block 0;go 1;block 1;x = choose {digits} x;give x")

    def test_very_long_texts(self):
        for sign in ("x", ";", " ", "0", "given;", "block 0;", "show x;", "a ", "\u00e9", "x = choose 0 a;", "given a"):
            for start in ("", "given;block 0;", "given ", "given;block 0;x = choose ", "given;block 0;x = "):
                self.check_invalid(start + sign * (3000000 // len(sign)))
        self.check_invalid(L_TEXT * 100000)

    def test_signs_left_out_doubled_and_put_in(self):
        for _, text in PAIRS:
            for at in range(len(text)):
                wrong = [text[:at] + text[at + 1:], text[:at] + text[at] + text[at:]]
                wrong += [text[:at] + sign + text[at:] for sign in " ;=0a7+*-<_X\n"]
                wrong += [text[:at] + sign + text[at + 1:] for sign in " ;=0a7+*-<_X\n"]
                for other in wrong:
                    self.check_other(other)

    def check_other(self, text):
        """Check that a text is refused, or is the text of its graph."""
        try:
            graph = parse_graph(text)
        except InvalidText:
            return
        self.assertIs(is_graph(graph), True)
        self.assertEqual(format_graph(graph), text)

    def test_lines_left_out_doubled_and_swapped(self):
        for _, text in PAIRS:
            lines = text.split(";")
            for at in range(len(lines)):
                self.check_other(";".join(lines[:at] + lines[at + 1:]))
                self.check_other(";".join(lines[:at] + [lines[at]] + lines[at:]))
                self.check_other(";".join(lines[:at] + lines[at:at + 2][::-1] + lines[at + 2:]))

    def test_words_left_out_and_doubled(self):
        for _, text in PAIRS:
            words = text.split(" ")
            for at in range(len(words)):
                self.check_other(" ".join(words[:at] + words[at + 1:]))
                self.check_other(" ".join(words[:at] + [words[at]] + words[at:]))

    def test_no_argument_is_changed(self):
        value = [L_TEXT, [L_TEXT]]
        before = copy.deepcopy(value)
        self.check_invalid(value)
        with self.assertRaises(InvalidGraph):
            format_graph(value)
        self.assertEqual(value, before)


if __name__ == "__main__":
    unittest.main()
