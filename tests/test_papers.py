"""Points 1 (h), 2.7, 3, 10 and 21: papers, and what they show."""

import itertools
import random
import unittest

from flowkeep.errors import InvalidGraph, InvalidPaper
from flowkeep.motion import lifted
from flowkeep.papers import agrees, is_paper
from flowkeep.single import plain, single
from flowkeep.texts import parse_graph
from tests.arguments import NO_GRAPHS, check_arguments
from tests.mutants import changed, run_alike
from tests.plains import random_plain
from tests.programs import ALL, D, K, L
from tests.samples import deep, oddities
from tests.singles import random_single

EACH = ((0, 1), (1, 1), (2, 1), (3, 1))


def shows(old, new, paper=None):
    """Return whether the paper, or that of single blocks with the same numbers, shows two texts to mean the same."""
    old, new = parse_graph(old), parse_graph(new)
    return agrees(old, new, paper or tuple((block, 1) for block in range(len(new[1]))))


class ExamplesTest(unittest.TestCase):
    def test_examples(self):
        self.assertIs(agrees(L, L, EACH), True)
        self.assertIs(agrees(D, lifted(D), EACH), True)
        self.assertIs(agrees(L, single(L), EACH), True)
        self.assertIs(agrees(single(L), plain(single(L)), EACH), True)
        self.assertIs(agrees(L, D, EACH), False)


class IsPaperTest(unittest.TestCase):
    def test_papers(self):
        self.assertIs(is_paper(L, L, EACH), True)
        self.assertIs(is_paper(L, K, ((3, 0), (3, 8), (0, 0), (0, 5))), True)
        self.assertIs(is_paper(K, parse_graph("given;block 0;go 0"), ((2, 8),)), True)

    def test_other_values(self):
        wrong = oddities() + [
            (), 0, list(EACH), EACH[:3], EACH + ((0, 1),), (EACH,), ((0, 1), (1, 1), (2, 1), [3, 1]), ((0, 1), (1, 1), (2, 1), (4, 1)),
            ((0, 1), (1, 1), (2, 1), (-1, 1)), ((0, 1), (1, 1), (2, 1), (3, 9)), ((0, 1), (1, 1), (2, 1), (3, -1)),
            ((0, 1), (1, 1), (2, 1), (3,)), ((0, 1), (1, 1), (2, 1), (3, 1, 1)), ((0, 1), (1, 1), (2, 1), (True, 1)),
            ((0, 1), (1, 1), (2, 1), (3, True)), ((0, 1), (1, 1), (2, 1), (3.0, 1)), ((0, 1), (1, 1), (2, 1), (3, None)),
            ((False, 1), (1, 1), (2, 1), (3, 1)), ((0, 1), (1, 1), (2, 1), "31"), ((0, 1), (1, 1), (2, 1), {3: 1, 1: 2}),
            ((0, 10 ** 5000), (1, 1), (2, 1), (3, 1)), ((0, 1), (10 ** 5000, 1), (2, 1), (3, 1)), (deep(lambda value: (value,)),) * 4]
        for value in wrong:
            self.assertIs(is_paper(L, L, value), False)
            self.assertRaises(InvalidPaper, agrees, L, L, value)

    def test_numbers_of_blocks_are_those_of_the_old_graph(self):
        one = parse_graph("given;block 0;give x")
        self.assertIs(is_paper(one, L, ((0, 1),) * 4), True)
        self.assertIs(is_paper(one, L, EACH), False)
        self.assertIs(is_paper(L, one, ((3, 1),)), True)
        self.assertIs(is_paper(L, one, EACH), False)


class FirstPointTest(unittest.TestCase):
    """Both graphs go side by side, block 0 has the start 0, and no ring has lengths of 0 alone."""

    def test_the_start_of_block_0(self):
        self.assertIs(shows("given a;block 0;go 1;block 1;give a", "given a;block 0;give a", ((1, 1),)), False)
        self.assertIs(shows("given a;block 0;go 1;block 1;give a", "given a;block 0;give a", ((0, 2),)), True)

    def test_numbers_of_inputs(self):
        self.assertIs(shows("given a;block 0;give x", "given a b;block 0;give x"), False)
        self.assertIs(shows("given a;block 0;give x", "given;block 0;give x"), False)
        self.assertIs(shows("given a b;block 0;give b", "given x a;block 0;give a"), True)
        self.assertIs(shows("given a b;block 0;give b", "given b a;block 0;give b"), False)

    def test_rings_of_lengths_of_0(self):
        self.assertIs(shows("given a;block 0;go 1;block 1;give a", "given a;block 0;go 1;block 1;go 1", ((0, 1), (1, 0))), False)
        self.assertIs(shows("given a;block 0;go 1;block 1;give a", "given a;block 0;go 1;block 1;go 2;block 2;go 1", ((0, 1), (1, 0), (1, 0))), False)
        self.assertIs(shows("given a;block 0;give a", "given a;block 0;go 0", ((0, 0),)), False)
        # The meaning is the same here, but a ring of lengths of 0 shows nothing.
        self.assertIs(shows("given a;block 0;go 1;block 1;go 1", "given a;block 0;go 1;block 1;go 1", ((0, 1), (1, 0))), False)
        self.assertIs(shows("given a;block 0;go 1;block 1;go 1", "given a;block 0;go 1;block 1;go 1"), True)

    def test_a_ring_with_one_length_that_is_not_0(self):
        self.assertIs(shows("given a;block 0;go 0", "given a;block 0;go 1;block 1;go 0", ((0, 0), (0, 1))), True)
        self.assertIs(
            shows("given a;block 0;show a;go 0", "given a;block 0;b = a;go 1;block 1;show b;go 2;block 2;go 0", ((0, 0), (0, 1), (0, 0))), True)

    def test_blocks_that_are_not_come_to(self):
        self.assertIs(shows("given a;block 0;give a", "given a;block 0;give a;block 1;show a;go 1", ((0, 1), (0, 0))), True)
        self.assertIs(shows("given a;block 0;give a;block 1;show a;go 1", "given a;block 0;give a", ((0, 1),)), True)


class EquationsTest(unittest.TestCase):
    """The equations at the beginnings of new blocks."""

    def test_names_at_first(self):
        self.assertIs(shows("given a;block 0;show x;give a", "given b;block 0;c = 0;show c;give b"), True)
        self.assertIs(shows("given a;block 0;x = cell 3;give x", "given b;block 0;give x"), True)

    def test_around_a_loop(self):
        old = "given n;block 0;k = 1;go 1;block 1;c = i < n;pick c 2 3;block 2;i = i + k;{};go 1;block 3;give i"
        self.assertIs(
            shows(
                old.format("s = s + n"), "given m;block 0;a = 1;go 1;block 1;b = d < m;pick b 2 3;block 2;e = e + m;d = a + d;go 1;block 3;give d"),
            True)
        # Twice as much as the count is kept, and halves are not reckoned.
        new = "given n;block 0;k = 1;d = 2;go 1;block 1;c = i < n;pick c 2 3;block 2;i = i + k;j = j + d;go 1;block 3;{}"
        self.assertIs(shows(old.replace("give i", "x = i * 2;give x").format("s = 1"), new.format("give j")), True)
        self.assertIs(shows(old.replace("give i", "x = i * 2;give x").format("s = 1"), new.format("give i")), False)
        self.assertIs(shows(old.replace("give i", "x = i * 3;give x").format("s = 1"), new.format("x = i + j;give x")), True)

    def test_sums_equal_by_going_round(self):
        self.assertIs(shows("given a b;block 0;x = a - b;give x", "given a b;block 0;x = b * 65535;y = a + x;give y"), True)
        self.assertIs(shows("given a;block 0;x = a * 32768;x = x + x;give x", "given a;block 0;give z"), True)
        self.assertIs(shows("given a;block 0;x = a * 32768;give x", "given a;block 0;x = a * 32768;y = z - x;give y"), True)
        self.assertIs(shows("given a;block 0;x = a * 32768;give x", "given a;block 0;give z"), False)
        self.assertIs(shows("given a b;block 0;x = a + b;give x", "given a b;block 0;x = b + a;give x"), True)
        self.assertIs(shows("given a b;block 0;x = a - b;give x", "given a b;block 0;x = b - a;give x"), False)

    def test_cells_read_after_writes(self):
        old = "given a b;block 0;cell 1 = a;cell 2 = b;go 1;block 1;x = cell 1;cell 1 = b;y = cell 1;show x;give y"
        self.assertIs(shows(old, "given a b;block 0;go 1;block 1;show a;give b"), True)
        self.assertIs(shows(old, "given a b;block 0;cell 3 = a;go 1;block 1;x = cell 3;show x;y = cell 3;give b"), True)
        self.assertIs(shows(old, "given a b;block 0;go 1;block 1;show b;give b"), False)
        self.assertIs(shows(old, "given a b;block 0;go 1;block 1;show a;x = cell 1;give x"), False)

    def test_choices(self):
        old = "given a b;block 0;pick a 1 2;block 1;x = a;go 3;block 2;x = b;go 3;block 3;give x"
        new = "given a b;block 0;pick a 1 2;block 1;go 3;block 2;go 3;block 3;x = choose 1 a 2 b;give x"
        self.assertIs(shows(old, new), True)
        self.assertIs(shows(new, old), True)
        self.assertIs(shows(old, new.replace("1 a 2 b", "1 b 2 a")), False)
        self.assertIs(shows(new, new.replace("1 a 2 b", "1 a 2 a")), False)

    def test_choices_all_at_once(self):
        old = "given a b;block 0;go 1;block 1;x = choose 0 a 1 y;y = choose 0 b 1 x;show x;pick y 1 2;block 2;give x"
        new = "given a b;block 0;x = a;y = b;go 1;block 1;show x;t = x;x = y;y = t;pick x 1 2;block 2;give y"
        self.assertIs(shows(old, new), True)
        self.assertIs(shows(old, new.replace("give y", "give x")), False)


class RowsTest(unittest.TestCase):
    """Rows of old blocks."""

    def test_goes(self):
        old = "given a;block 0;x = a;go 1;block 1;x = x + a;go 2;block 2;pick x 0 3;block 3;give x"
        self.assertIs(shows(old, "given a;block 0;x = a * 2;pick x 0 1;block 1;give x", ((0, 3), (3, 1))), True)
        self.assertIs(shows(old, "given a;block 0;x = a * 2;pick x 0 1;block 1;give x", ((0, 2), (3, 1))), False)
        self.assertIs(shows(old, "given a;block 0;x = a * 2;pick x 0 1;block 1;give x", ((0, 4), (3, 1))), False)

    def test_picks_with_equal_goals(self):
        self.assertIs(shows("given a;block 0;pick a 1 1;block 1;show a;give a", "given a;block 0;show a;give a", ((0, 2),)), True)

    def test_picks_on_known_words(self):
        old = "given a;block 0;k = {};pick k 1 2;block 1;show a;give a;block 2;give k"
        self.assertIs(shows(old.format(5), "given a;block 0;show a;give a", ((0, 2),)), True)
        self.assertIs(shows(old.format(0), "given a;block 0;give x", ((0, 2),)), True)
        self.assertIs(shows(old.format("a"), "given a;block 0;show a;give a", ((0, 2),)), False)
        # What was set ahead is known at the block.
        old = "given a;block 0;k = 3;go 1;block 1;show a;pick k 1 2;block 2;give a"
        self.assertIs(shows(old, "given a;block 0;go 1;block 1;show a;go 1", ((0, 1), (1, 1))), True)

    def test_a_row_of_eight_blocks(self):
        old = "given a;" + ";".join(f"block {at};a = a + a;go {at + 1}" for at in range(8)) + ";block 8;give a"
        self.assertIs(shows(old, "given a;block 0;x = a * 256;go 1;block 1;give x", ((0, 8), (8, 1))), True)

    def test_a_loop_with_rows(self):
        old = "given a;block 0;show a;go 1;block 1;show b;go 0"
        self.assertIs(shows(old, "given a;block 0;show a;go 1;block 1;show b;go 0", ((0, 1), (1, 1))), True)
        self.assertIs(shows(old, "given a;block 0;show a;show b;go 0", ((0, 2),)), True)
        self.assertIs(shows(old, "given a;block 0;show a;show b;show a;show b;go 0", ((0, 4),)), True)
        self.assertIs(shows(old, "given a;block 0;show a;show b;show a;go 1;block 1;show b;go 0", ((0, 3), (1, 1))), True)
        self.assertIs(shows(old, "given a;block 0;show a;go 0", ((0, 2),)), False)
        self.assertIs(shows(old, "given a;block 0;show a;go 0", ((0, 1),)), False)

    def test_choices_within_a_row(self):
        old = "given a b;block 0;go 1;block 1;x = choose 0 a;y = choose 0 b;go 2;block 2;z = choose 1 y;give z"
        self.assertIs(shows(old, "given a b;block 0;give b", ((0, 3),)), True)
        self.assertIs(shows(old, "given a b;block 0;give a", ((0, 3),)), False)


class ProductsTest(unittest.TestCase):
    """Products, quotients and comparisons of equal values."""

    def test_within_a_block(self):
        for sign in "*/<":
            old = f"given a b;block 0;x = a {sign} b;y = a {sign} b;show x;give y"
            self.assertIs(shows(old, f"given a b;block 0;x = a {sign} b;show x;give x"), True, sign)
            self.assertIs(shows(old, f"given a b;block 0;c = a;d = c + z;x = d {sign} b;show x;give x"), True, sign)
            self.assertIs(shows(old, f"given a b;block 0;x = b {sign} a;show x;give x"), sign == "*", sign)

    def test_of_known_words(self):
        for sign, word in (("*", 15), ("/", 1), ("<", 0)):
            self.assertIs(shows(f"given;block 0;a = 5;b = 3;x = a {sign} b;give x", f"given;block 0;x = {word};give x"), True)
            self.assertIs(shows(f"given;block 0;a = 5;b = 3;x = a {sign} b;give x", "given;block 0;x = 9;give x"), False)

    def test_a_product_of_one_known_word_is_linear(self):
        self.assertIs(shows("given a;block 0;k = 3;x = a * k;give x", "given a;block 0;x = a + a;x = x + a;give x"), True)
        self.assertIs(shows("given a;block 0;k = 3;x = k * a;give x", "given a;block 0;x = a * 3;give x"), True)
        self.assertIs(shows("given a;block 0;k = 3;go 1;block 1;x = a * k;give x", "given a;block 0;go 1;block 1;x = a * 3;give x"), True)
        self.assertIs(shows("given a;block 0;x = a * z;give x", "given a;block 0;give z"), True)

    def test_products_of_products(self):
        old = "given a b c;block 0;x = a * b;y = x * c;z = y < x;give z"
        self.assertIs(shows(old, "given a b c;block 0;x = b * a;y = c * x;z = y < x;give z"), True)
        self.assertIs(shows(old, "given a b c;block 0;x = b * c;y = a * x;z = y < x;give z"), False)

    def test_kept_over_blocks(self):
        for sign in "*/<":
            old = f"given a b;block 0;x = a {sign} b;go 1;block 1;y = a {sign} b;show y;go 2;block 2;y = a {sign} b;give y"
            self.assertIs(shows(old, f"given a b;block 0;x = a {sign} b;go 1;block 1;show x;go 2;block 2;give x"), True)
            self.assertIs(shows(old, f"given a b;block 0;x = a {sign} b;go 1;block 1;a = b;show x;go 2;block 2;give x"), True)
            self.assertIs(shows(old.replace("show y", "a = b;show y"), f"given a b;block 0;x = a {sign} b;go 1;block 1;show x;go 2;block 2;give x"), False)

    def test_reckoned_earlier(self):
        old = "given a b;block 0;pick a 1 2;block 1;x = a * b;go 3;block 2;y = a * b;x = y;go 3;block 3;z = a * b;show z;give x"
        early = "given a b;block 0;e = a * b;pick a 1 2;block 1;x = e;go 3;block 2;y = e;x = y;go 3;block 3;z = e;show z;give x"
        joined = "given a b;block 0;pick a 1 2;block 1;x = a * b;go 3;block 2;y = a * b;x = y;go 3;block 3;show x;give x"
        for one, other in itertools.permutations((old, early, joined), 2):
            self.assertIs(shows(one, other), True)

    def test_kept_on_all_edges_of_a_loop(self):
        old = "given a b n;block 0;k = 1;x = a * b;go 1;block 1;y = a * b;show y;{}c = i < n;i = i + k;pick c 1 2;block 2;z = b * a;give z"
        new = "given a b n;block 0;k = 1;x = a * b;go 1;block 1;show x;{}c = i < n;i = i + k;pick c 1 2;block 2;give x"
        self.assertIs(shows(old.format(""), new.format("")), True)
        self.assertIs(shows(old.format("a = a + k;"), new.format("a = a + k;")), False)
        again = new.format("a = a + k;x = a * b;")
        self.assertIs(shows(old.format("a = a + k;"), again), True)

    def test_operands_kept_under_other_names(self):
        old = "given a b;block 0;c = a;x = a * b;a = z;go 1;block 1;y = c * b;give y"
        self.assertIs(shows(old, "given a b;block 0;x = a * b;go 1;block 1;give x"), True)
        old = "given a b c;block 0;s = a + b;p = s * c;s = z;go 1;block 1;t = b + a;q = t * c;give q"
        self.assertIs(shows(old, "given a b c;block 0;s = a + b;p = s * c;s = z;go 1;block 1;give p"), True)
        old = "given a b c;block 0;t = a * b;t = t * c;u = t;go 1;block 1;t = a * b;t = t * c;give t"
        self.assertIs(shows(old, "given a b c;block 0;t = a * b;t = t * c;u = t;go 1;block 1;give u"), True)

    def test_results_kept_in_sums(self):
        old = "given a b;block 0;k = 7;x = a * b;x = x + k;go 1;block 1;y = a * b;give y"
        self.assertIs(shows(old, "given a b;block 0;k = 7;x = a * b;x = x + k;go 1;block 1;y = x - k;give y"), True)

    def test_kept_over_blocks_that_do_not_reckon_them(self):
        for sign in "*/<":
            old = f"given a b n;block 0;x = a {sign} b;go 1;block 1;show a;pick n 1 2;block 2;y = a {sign} b;give y"
            new = f"given a b n;block 0;x = a {sign} b;go 1;block 1;show a;pick n 1 2;block 2;give x"
            self.assertIs(shows(old, new), True)
            self.assertIs(shows(old.replace("show a", "show a;b = n"), new.replace("show a", "show a;b = n")), False)

    def test_operands_told_by_sums_with_words(self):
        old = "given a c;block 0;k = 5;s = a + k;p = s * c;s = z;k = z;go 1;block 1;k = 5;t = k + a;q = t * c;give q"
        self.assertIs(shows(old, "given a c;block 0;k = 5;s = a + k;p = s * c;s = z;k = z;go 1;block 1;give p"), True)
        self.assertIs(shows(old.replace("k = 5;t", "k = 6;t"), "given a c;block 0;k = 5;s = a + k;p = s * c;s = z;k = z;go 1;block 1;give p"), False)

    def test_products_of_products_that_one_edge_does_not_have(self):
        old = "given a b c;block 0;pick a 1 2;block 1;t = a * b;t = t * c;u = t;go 3;block 2;{}go 3;block 3;t = a * b;t = t * c;give t"
        new = "given a b c;block 0;pick a 1 2;block 1;t = a * b;t = t * c;u = t;go 3;block 2;{}go 3;block 3;give u"
        self.assertIs(shows(old.format("u = z;"), new.format("u = z;")), False)
        self.assertIs(shows(old.format("t = a * b;"), new.format("t = a * b;")), False)
        same = "t = a * b;t = t * c;u = t;t = z;"
        self.assertIs(shows(old.format(same), new.format(same)), True)

    def test_words_on_one_edge_and_products_on_the_other(self):
        old = "given a n;block 0;k = 1;go 1;block 1;show p;i = i + k;p = i * i;pick n 1 2;block 2;q = i * i;give q"
        self.assertIs(shows(old, "given a n;block 0;k = 1;go 1;block 1;show p;i = i + k;p = i * i;pick n 1 2;block 2;give p"), True)
        old = "given a n;block 0;k = 1;go 1;block 1;q = i * i;show q;i = i + k;pick n 1 2;block 2;give n"
        self.assertIs(shows(old, "given a n;block 0;k = 1;go 1;block 1;show p;i = i + k;p = i * i;pick n 1 2;block 2;give n"), True)
        self.assertIs(shows(old, "given a n;block 0;k = 1;p = 1;go 1;block 1;show p;i = i + k;p = i * i;pick n 1 2;block 2;give n"), False)

    def test_unlike_unknown_words(self):
        self.assertIs(shows("given a b;block 0;x = a * a;give x", "given a b;block 0;x = a * b;give x"), False)
        self.assertIs(shows("given a b;block 0;x = a < b;give x", "given a b;block 0;x = a * b;give x"), False)


class EventsTest(unittest.TestCase):
    """What is shown and asked, and where both may stop, in one sequence."""

    def test_shows(self):
        self.assertIs(shows("given a b;block 0;show a;show b;give a", "given a b;block 0;show a;show b;give a"), True)
        self.assertIs(shows("given a b;block 0;show a;show b;give a", "given a b;block 0;show b;show a;give a"), False)
        self.assertIs(shows("given a b;block 0;show a;show b;give a", "given a b;block 0;show a;give a"), False)
        self.assertIs(shows("given a b;block 0;show a;give a", "given a b;block 0;show a;show a;give a"), False)
        self.assertIs(shows("given a b;block 0;c = a;show c;give a", "given a b;block 0;show a;give a"), True)

    def test_answers(self):
        old = "given a;block 0;x = ask;y = ask;z = x - y;show z;give x"
        self.assertIs(shows(old, "given a;block 0;y = ask;x = ask;z = y - x;show z;give y"), True)
        self.assertIs(shows(old, "given a;block 0;x = ask;y = ask;z = y - x;show z;give x"), False)
        self.assertIs(shows(old, "given a;block 0;x = ask;z = x - x;show z;give x"), False)
        self.assertIs(shows("given a;block 0;x = ask;give a", "given a;block 0;give a"), False)

    def test_answers_and_shows_in_sequence(self):
        # This keeps the meaning, but not the sequence.
        self.assertIs(shows("given a;block 0;x = ask;show a;give x", "given a;block 0;show a;x = ask;give x"), False)

    def test_answers_of_other_blocks_are_others(self):
        old = "given a;block 0;x = ask;go 1;block 1;y = ask;z = x + y;give z"
        self.assertIs(shows(old, old), True)
        self.assertIs(shows(old, old.replace("x + y", "x + x")), False)

    def test_stops(self):
        old = "given a b;block 0;q = a / b;show a;give q"
        self.assertIs(shows(old, old), True)
        self.assertIs(shows(old, "given a b;block 0;c = b;q = a / c;show a;give q"), True)
        self.assertIs(shows(old, "given a b;block 0;show a;q = a / b;give q"), False)
        self.assertIs(shows(old, "given a b;block 0;show a;give q"), False)
        self.assertIs(shows("given a b;block 0;q = a / b;give a", "given a b;block 0;q = b / b;give a"), True)
        self.assertIs(shows("given a b;block 0;q = a / b;give a", "given a b;block 0;give a"), False)
        self.assertIs(shows("given a b;block 0;give a", "given a b;block 0;q = a / b;give a"), False)
        self.assertIs(shows("given a b;block 0;q = a / b;r = b / a;give a", "given a b;block 0;r = b / a;q = a / b;give a"), False)

    def test_quotients_whose_divisor_is_known(self):
        self.assertIs(shows("given a;block 0;k = 3;q = a / k;give a", "given a;block 0;give a"), True)
        self.assertIs(shows("given a;block 0;give a", "given a;block 0;k = 3;q = a / k;give a"), True)
        self.assertIs(shows("given a;block 0;k = 3;go 1;block 1;q = a / k;give a", "given a;block 0;go 1;block 1;give a"), True)
        # An odd divisor is not 0, whatever it is.
        self.assertIs(shows("given a;block 0;k = 1;d = a * 2;d = d + k;q = a / d;give a", "given a;block 0;give a"), True)
        self.assertIs(shows("given a;block 0;k = 2;d = a * 2;d = d + k;q = a / d;give a", "given a;block 0;give a"), False)

    def test_quotients_reckoned_once(self):
        old = "given a b;block 0;q = a / b;r = a / b;s = r / b;show s;give r"
        self.assertIs(shows(old, "given a b;block 0;q = a / b;s = q / b;show s;give q"), True)
        self.assertIs(shows(old, "given a b;block 0;s = q / b;show s;give q"), False)
        old = "given a b;block 0;q = a / b;show q;r = b / b;give q"
        self.assertIs(shows(old, "given a b;block 0;q = a / b;show q;give q"), True)
        old = "given a b;block 0;q = a / b;go 1;block 1;r = a / b;show r;go 2;block 2;r = b / b;give q"
        self.assertIs(shows(old, "given a b;block 0;q = a / b;go 1;block 1;show q;go 2;block 2;give q"), True)
        self.assertIs(shows(old, "given a b;block 0;go 1;block 1;q = a / b;show q;go 2;block 2;give q"), False)

    def test_divisors_that_have_been_passed_in_other_blocks(self):
        # What was divided is not known any more, but the divisor is.
        old = "given a b c;block 0;x = ask;q = x / b;show q;x = z;q = z;go 1;block 1;{}r = c / b;give c"
        new = "given a b c;block 0;x = ask;q = x / b;show q;x = z;q = z;go 1;block 1;{}give c"
        self.assertIs(shows(old.format(""), new.format("")), True)
        self.assertIs(shows(old.format("b = ask;"), new.format("b = ask;")), False)
        self.assertIs(shows(old.format("b = z;"), new.format("b = z;")), False)
        self.assertIs(shows(old.format("d = b;b = d;"), new.format("")), True)
        old = old.replace("x = z;", "x = z;d = b;b = z;").replace("c / b", "c / d")
        self.assertIs(shows(old.format(""), new.format("")), True)

    def test_divisors_that_have_been_passed_on_all_edges(self):
        old = "given a b c;block 0;pick a 1 2;block 1;x = ask;q = x / b;x = z;q = z;go 3;block 2;{}go 3;block 3;r = c / b;give c"
        new = "given a b c;block 0;pick a 1 2;block 1;x = ask;q = x / b;x = z;q = z;go 3;block 2;{}go 3;block 3;give c"
        self.assertIs(shows(old.format(""), new.format("")), False)
        self.assertIs(shows(old.format("x = a / c;"), new.format("x = a / c;")), False)
        for passing in ("x = ask;x = x / b;x = z;", "k = 1;b = a * 2;b = b + k;", "b = 7;", "b = c;x = ask;x = x / c;x = z;"):
            self.assertIs(shows(old.format(passing), new.format(passing)), True, passing)
        for other in ("b = 0;", "k = 2;b = a * 2;b = b + k;", "b = ask;"):
            self.assertIs(shows(old.format(other), new.format(other)), False, other)

    def test_divisors_that_are_passed_in_a_loop(self):
        old = "given a b n;block 0;x = ask;q = x / b;x = z;q = z;go 1;block 1;show n;{}q = n / b;q = z;pick n 1 2;block 2;give n"
        new = "given a b n;block 0;x = ask;q = x / b;x = z;q = z;go 1;block 1;show n;{}pick n 1 2;block 2;give n"
        self.assertIs(shows(old.format(""), new.format("")), True)
        self.assertIs(shows(old.format("n = b - n;"), new.format("n = b - n;")), True)
        self.assertIs(shows(old.format("b = b - n;"), new.format("b = b - n;")), False)

    def test_nothing_is_compared_behind_a_quotient_by_0(self):
        old = "given a;block 0;q = a / z;show a;give q"
        self.assertIs(shows(old, "given a;block 0;q = a / z;x = ask;give a"), True)
        self.assertIs(shows(old, "given a;block 0;q = a / z;go 0"), True)
        self.assertIs(shows(old, "given a;block 0;show a;q = a / z;go 0"), False)
        self.assertIs(shows(old, "given a;block 0;show a;give q"), False)
        self.assertIs(shows("given a;block 0;q = a / a;give q", old), False)
        self.assertIs(shows("given a;block 0;q = a / z;go 1;block 1;show a;go 0", "given a;block 0;r = z / z;give a"), True)


class EndsTest(unittest.TestCase):
    """Both end alike."""

    def test_gives(self):
        self.assertIs(shows("given a b;block 0;give a", "given a b;block 0;give b"), False)
        self.assertIs(shows("given a b;block 0;c = a;give c", "given a b;block 0;give a"), True)
        self.assertIs(shows("given a b;block 0;give a", "given a b;block 0;go 1;block 1;give a", ((0, 1), (0, 1))), False)
        self.assertIs(shows("given a b;block 0;give a", "given a b;block 0;go 1;block 1;give a", ((0, 0), (0, 1))), True)
        self.assertIs(shows("given a b;block 0;go 1;block 1;give a", "given a b;block 0;give a", ((0, 1),)), False)

    def test_picks_on_equal_values(self):
        old = "given a b;block 0;pick a 1 2;block 1;give a;block 2;give b"
        self.assertIs(shows(old, "given a b;block 0;c = a;pick c 1 2;block 1;give c;block 2;give b"), True)
        self.assertIs(shows(old, "given a b;block 0;pick b 1 2;block 1;give a;block 2;give b"), False)
        self.assertIs(shows(old, "given a b;block 0;pick a 2 1;block 1;give a;block 2;give b"), False)
        self.assertIs(shows(old, "given a b;block 0;pick a 2 1;block 1;give b;block 2;give a", ((0, 1), (2, 1), (1, 1))), True)
        self.assertIs(shows(old, "given a b;block 0;go 1;block 1;give a", ((0, 1), (1, 1))), False)

    def test_picks_on_known_words(self):
        old = "given a b;block 0;k = 2;pick k 1 2;block 1;give a;block 2;give b"
        self.assertIs(shows(old, "given a b;block 0;go 1;block 1;give a", ((0, 1), (1, 1))), True)
        self.assertIs(shows("given a b;block 0;go 1;block 1;give a", old, ((0, 1), (1, 1), (0, 0))), True)
        self.assertIs(shows(old, "given a b;block 0;go 1;block 1;give b", ((0, 1), (1, 1))), False)
        self.assertIs(shows(old, "given a b;block 0;go 1;block 1;give b", ((0, 1), (2, 1))), False)
        self.assertIs(shows(old.replace("k = 2", "k = 0"), "given a b;block 0;go 1;block 1;give b", ((0, 1), (2, 1))), True)

    def test_picks_with_equal_goals(self):
        self.assertIs(shows("given a;block 0;pick a 1 1;block 1;give a", "given a;block 0;go 1;block 1;give a"), True)
        self.assertIs(shows("given a;block 0;go 1;block 1;give a", "given a;block 0;pick a 1 1;block 1;give a"), True)
        self.assertIs(shows("given a b;block 0;pick a 1 1;block 1;give a", "given a b;block 0;pick b 1 1;block 1;give a"), True)

    def test_lengths_of_0(self):
        old = "given a b;block 0;pick a 1 2;block 1;show b;go 2;block 2;give b"
        new = "given a b;block 0;c = b;go 1;block 1;pick a 2 4;block 2;d = c;go 3;block 3;show d;go 4;block 4;give c"
        self.assertIs(shows(old, new, ((0, 0), (0, 1), (1, 0), (1, 1), (2, 1))), True)
        self.assertIs(shows(old, new.replace("d = c", "show c"), ((0, 0), (0, 1), (1, 0), (1, 1), (2, 1))), False)
        self.assertIs(shows(old, new.replace("d = c", "d = ask"), ((0, 0), (0, 1), (1, 0), (1, 1), (2, 1))), False)
        self.assertIs(shows(old, new.replace("d = c", "d = a / b"), ((0, 0), (0, 1), (1, 0), (1, 1), (2, 1))), False)
        self.assertIs(shows(old, new.replace("d = c;", "d = c;k = 3;e = d / k;"), ((0, 0), (0, 1), (1, 0), (1, 1), (2, 1))), True)
        self.assertIs(shows(old, new, ((0, 0), (0, 1), (2, 0), (1, 1), (2, 1))), False)
        self.assertIs(shows(old, new, ((0, 0), (1, 1), (1, 0), (1, 1), (2, 1))), False)

    def test_a_length_of_0_with_a_give(self):
        self.assertIs(shows("given a;block 0;give a", "given a;block 0;give a", ((0, 0),)), False)
        self.assertIs(shows("given a;block 0;go 0", "given a;block 0;give a", ((0, 0),)), False)


class StartsTest(unittest.TestCase):
    """The start of each goal."""

    def test_goals(self):
        old = "given a;block 0;go 1;block 1;x = 1;go 2;block 2;give a"
        self.assertIs(shows(old, "given a;block 0;go 1;block 1;go 2;block 2;give a"), True)
        # Block 1 of the old graph has a step, so that it can't be left out by itself.
        self.assertIs(shows(old, "given a;block 0;go 1;block 1;give a", ((0, 1), (2, 1))), False)
        self.assertIs(shows(old, "given a;block 0;go 1;block 1;give a", ((0, 2), (2, 1))), True)

    def test_goes_over_blocks_without_steps(self):
        old = "given a;block 0;show a;go 1;" + ";".join(f"block {at};go {at + 1}" for at in range(1, 9)) + ";block 9;give a"
        new = "given a;block 0;show a;go 1;block 1;give a"
        for start in range(1, 8):
            self.assertIs(shows(old, new, ((0, 1), (start, min(8, 10 - start)))), start > 1)
        self.assertIs(shows(old, new, ((0, 1), (8, 2))), True)
        # That would be over 8 blocks.
        self.assertIs(shows(old, new, ((0, 1), (9, 1))), False)
        self.assertIs(shows(old, new, ((0, 2), (9, 1))), True)

    def test_other_ends_are_not_gone_over(self):
        old = "given a;block 0;show a;go 1;block 1;pick a 2 3;block 2;give a;block 3;go 2"
        self.assertIs(shows(old, "given a;block 0;show a;go 1;block 1;give a", ((0, 1), (2, 1))), False)

    def test_choices_of_blocks_that_are_gone_over(self):
        old = "given a b;block 0;pick a 1 2;block 1;go 3;block 2;go 3;block 3;x = choose 1 a 2 b;go 4;block 4;y = choose 3 x;give y"
        new = "given a b;block 0;pick a 1 2;block 1;x = a;go 3;block 2;x = b;go 3;block 3;give x"
        self.assertIs(shows(old, new, ((0, 1), (1, 1), (2, 1), (4, 1))), True)
        self.assertIs(shows(old, new, ((0, 1), (1, 1), (2, 1), (3, 2))), True)
        self.assertIs(shows(old, new.replace("x = b", "x = a"), ((0, 1), (1, 1), (2, 1), (4, 1))), False)

    def test_other_starts(self):
        for wrong in itertools.product(range(4), repeat=3):
            paper = ((0, 1),) + tuple((start, 1) for start in wrong)
            self.assertIs(agrees(L, L, paper), paper == EACH)

    def test_other_lengths(self):
        for lengths in itertools.product(range(4), repeat=4):
            paper = tuple((block, length) for block, length in enumerate(lengths))
            self.assertIs(agrees(L, L, paper), paper == EACH)


class MeaningTest(unittest.TestCase):
    def test_a_graph_and_itself(self):
        chance = random.Random(1)
        for number in range(200):
            graph = random_single(chance, 7, 5) if number % 2 else random_plain(chance, 7, 5)
            self.assertIs(agrees(graph, graph, tuple((block, 1) for block in range(len(graph[1])))), True)

    def test_changed_graphs_are_agreed_with_only_if_they_mean_the_same(self):
        chance = random.Random(2)
        agreed = other = 0
        for number in range(600):
            graph = random_single(chance, 5, 4) if number % 2 else random_plain(chance, 5, 4)
            new = changed(chance, graph)
            if new is not None:
                if agrees(graph, new, tuple((block, 1) for block in range(len(new[1])))):
                    self.assertIs(run_alike(chance, graph, new), True, (graph, new))
                    agreed += 1
                else:
                    other += 1
        self.assertGreater(agreed, 100)
        self.assertGreater(other, 100)

    def test_drawn_papers_are_agreed_with_only_if_the_graphs_mean_the_same(self):
        chance = random.Random(3)
        agreed = 0
        for number in range(1500):
            graph = random_plain(chance, 3, 1, ("a", "b"), ("set", "copy", "show", "add"))
            new = random_plain(chance, 3, 1, ("a", "b"), ("set", "copy", "show", "add")) if number % 3 else changed(chance, graph) or graph
            paper = tuple((chance.randrange(len(graph[1])) if block else 0, chance.choice((0, 1, 1, 2, 3))) for block in range(len(new[1])))
            if agrees(graph, new, paper):
                self.assertIs(run_alike(chance, graph, new), True, (graph, new, paper))
                agreed += 1
        self.assertGreater(agreed, 20)

    def test_graphs_with_many_names(self):
        chance = random.Random(4)
        graph = random_plain(chance, 20, 30, [f"n{at}" for at in range(30)], ("add", "mul", "copy", "set", "ask", "show", "less", "write", "read"))
        paper = tuple((block, 1) for block in range(len(graph[1])))
        self.assertIs(agrees(graph, graph, paper), True)


    def test_long_rows_of_products(self):
        for kind in ("mul", "div", "less"):
            first = ((("mul", "t", "a", "b"),) + ((kind, "t", "t", "a"),) * 50, ("go", 1))
            blocks = (first,) + tuple((((kind, "t", "t", "a"),) * 50, ("pick", "b", at + 1, max(at - 1, 1))) for at in range(1, 12))
            graph = (("a", "b"), blocks + (((), ("give", "t")),))
            paper = tuple((block, 1) for block in range(13))
            self.assertIs(agrees(graph, graph, paper), True)
            other = (("a", "b"), blocks + (((("add", "t", "t", "a"),), ("give", "t")),))
            self.assertIs(agrees(graph, other, paper), False)


class ArgumentsTest(unittest.TestCase):
    def test_wrong_arguments(self):
        for graph in NO_GRAPHS:
            for value in (EACH, None, ()):
                for function in (is_paper, agrees):
                    self.assertRaises(InvalidGraph, function, graph, L, value)
                    self.assertRaises(InvalidGraph, function, L, graph, value)
                    self.assertRaises(InvalidGraph, function, graph, graph, value)
        check_arguments(self, agrees, (L, L, EACH), ("graph", "graph", "paper"))

        def is_other_paper(old, new):
            return is_paper(old, new, EACH)
        check_arguments(self, is_other_paper, (ALL, L), ("graph", "graph"))

    def test_a_wrong_paper_comes_ahead_of_unlike_inputs(self):
        self.assertRaises(InvalidPaper, agrees, L, D, EACH[:3])
        self.assertRaises(InvalidPaper, agrees, D, L, None)


if __name__ == "__main__":
    unittest.main()
