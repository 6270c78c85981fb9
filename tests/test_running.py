"""Points 2.1, 2.4 to 2.6 and 9: runs."""

import copy
import random
import unittest

from flowkeep.errors import InvalidGraph, InvalidValues
from flowkeep.running import count_run, run, visits
from flowkeep.texts import parse_graph
from tests.programs import ALL, D, K, L, random_graph, told_run
from tests.samples import no_words, oddities


def ran(text, values=(), answers=(), most=1000):
    """Return what a graph with this text shows, its end, and its count."""
    graph = parse_graph(text)
    return run(graph, values, answers, most) + (count_run(graph, values, answers, most),)


def one_block(steps, values=(), answers=(), inputs=""):
    """Return the shown words and the end of one block with these steps."""
    graph = parse_graph(f"given{inputs};block 0;{steps}")
    return run(graph, values, answers, 1000)


class ExamplesTest(unittest.TestCase):
    def test_run(self):
        self.assertEqual(run(L, (3,), (), 100), ((9,), ("give", 3)))
        self.assertEqual(run(L, (3,), (), 5), ((), ("going",)))

    def test_visits(self):
        self.assertEqual(visits(L, (1,), (), 100), (0, 1, 2, 1, 3))

    def test_count_run(self):
        self.assertEqual(count_run(L, (1,), (), 100), 12)

    def test_the_other_graphs(self):
        self.assertEqual(run(D, (1, 2), (), 100), ((3,), ("give", 3)))
        self.assertEqual(run(D, (0, 65535), (), 100), ((65535,), ("give", 65535)))
        self.assertEqual(visits(D, (1, 2), (), 100), (0, 1, 3))
        self.assertEqual(visits(D, (0, 2), (), 100), (0, 2, 3))
        self.assertEqual(count_run(D, (1, 2), (), 100), 6)
        self.assertEqual(count_run(D, (0, 2), (), 100), 7)
        self.assertEqual(run(K, (), (), 100), ((), ("give", 6)))
        self.assertEqual(visits(K, (), (), 100), (0, 1, 2, 1, 2, 1, 2, 1, 3))
        self.assertEqual(count_run(K, (), (), 100), 19)


class StepsTest(unittest.TestCase):
    def test_set_and_copy(self):
        self.assertEqual(one_block("x = 65535;y = x;x = 1;show y;give x"), ((65535,), ("give", 1)))

    def test_sums_go_round(self):
        for one, other, total in ((65535, 1, 0), (65535, 65535, 65534), (32768, 32768, 0), (3, 4, 7), (0, 0, 0)):
            self.assertEqual(one_block("x = a + b;give x", (one, other), (), " a b"), ((), ("give", total)))

    def test_differences_go_round(self):
        for one, other, left in ((0, 1, 65535), (0, 65535, 1), (7, 3, 4), (3, 7, 65532), (5, 5, 0)):
            self.assertEqual(one_block("x = a - b;give x", (one, other), (), " a b"), ((), ("give", left)))

    def test_products_go_round(self):
        for one, other, product in ((256, 256, 0), (65535, 65535, 1), (65535, 2, 65534), (3, 4, 12), (300, 300, 24464)):
            self.assertEqual(one_block("x = a * b;give x", (one, other), (), " a b"), ((), ("give", product)))
            self.assertEqual(one_block(f"x = a * {other};give x", (one,), (), " a"), ((), ("give", product)))

    def test_quotients(self):
        for one, other, quotient in ((7, 2, 3), (6, 3, 2), (2, 7, 0), (65535, 1, 65535), (65535, 65535, 1), (65535, 256, 255), (0, 5, 0)):
            self.assertEqual(one_block("x = a / b;give x", (one, other), (), " a b"), ((), ("give", quotient)))

    def test_stops_at_zero(self):
        text = "given a;block 0;show a;x = a / b;show x;give x"
        self.assertEqual(ran(text, (5,)), ((5,), ("stop",), 2))
        self.assertEqual(ran("given;block 0;x = x / x;give x"), ((), ("stop",), 1))
        self.assertEqual(run(parse_graph(text), (5,), (), 1), ((5,), ("going",)))
        self.assertEqual(run(parse_graph(text), (5,), (), 2), ((5,), ("stop",)))

    def test_comparisons(self):
        for one, other, less in ((1, 2, 1), (2, 1, 0), (2, 2, 0), (0, 65535, 1), (65535, 0, 0), (32767, 32768, 1), (32768, 1, 0)):
            self.assertEqual(one_block("x = a < b;give x", (one, other), (), " a b"), ((), ("give", less)))

    def test_answers(self):
        text = "x = ask;y = ask;z = ask;show x;show y;show z;give z"
        self.assertEqual(one_block(text, (), (7, 8, 9, 10)), ((7, 8, 9), ("give", 9)))
        self.assertEqual(one_block(text, (), (7, 8)), ((7, 8, 0), ("give", 0)))
        self.assertEqual(one_block(text), ((0, 0, 0), ("give", 0)))

    def test_answers_that_run_out_give_0_ahead_of_older_values(self):
        self.assertEqual(one_block("x = 5;x = ask;give x"), ((), ("give", 0)))

    def test_cells(self):
        text = "x = 5;y = 6;cell 0 = x;cell 3 = y;x = 9;a = cell 0;b = cell 3;c = cell 1;show a;show b;show c;give x"
        self.assertEqual(one_block(text), ((5, 6, 0), ("give", 9)))
        for cell in range(4):
            lines = [f"x = {at + 1};cell {at} = x" for at in range(4)]
            self.assertEqual(one_block(";".join(lines) + f";y = cell {cell};give y"), ((), ("give", cell + 1)))

    def test_cells_and_names_are_0_at_first(self):
        self.assertEqual(one_block("x = 9;x = cell 2;show x;show n;give n"), ((0, 0), ("give", 0)))

    def test_inputs(self):
        text = "show a;show b;show c;show d;give d"
        self.assertEqual(one_block(text, (4, 3, 2, 1), (), " d c b a"), ((1, 2, 3, 4), ("give", 4)))

    def test_a_name_may_read_itself(self):
        self.assertEqual(one_block("x = 3;x = x + x;x = x * x;x = x - x;give x"), ((), ("give", 0)))
        self.assertEqual(one_block("x = 3;x = x + x;x = x * x;x = x;give x"), ((), ("give", 36)))


class EndsTest(unittest.TestCase):
    def test_pick(self):
        graph = parse_graph("given a;block 0;pick a 1 2;block 1;give a;block 2;x = 77;give x")
        self.assertEqual(run(graph, (0,), (), 10), ((), ("give", 77)))
        for word in (1, 2, 256, 32768, 65535):
            self.assertEqual(run(graph, (word,), (), 10), ((), ("give", word)))

    def test_give_ends(self):
        self.assertEqual(ran("given a;block 0;give a", (5,)), ((), ("give", 5), 1))
        self.assertEqual(count_run(parse_graph("given a;block 0;give a"), (5,), (), 20000), 1)

    def test_going_round_for_ever(self):
        graph = parse_graph("given;block 0;go 0")
        for most in (0, 1, 2, 17, 20000):
            self.assertEqual(run(graph, (), (), most), ((), ("going",)))
            self.assertEqual(visits(graph, (), (), most), (0,) * (most + 1))
            self.assertEqual(count_run(graph, (), (), most), most)

    def test_going_back_to_block_0_keeps_values(self):
        text = "given a;block 0;show a;x = x + a;a = a - b;b = 1;a = a - b;pick a 0 1;block 1;give x"
        self.assertEqual(ran(text, (3,)), ((3, 2), ("give", 5), 13))

    def test_an_end_of_going_is_a_tuple(self):
        self.assertEqual(run(L, (3,), (), 0), ((), ("going",)))


class CountTest(unittest.TestCase):
    def test_each_greatest_count(self):
        whole = told_run(L, (2,), (), 20000)
        for most in range(25):
            shown, end = run(L, (2,), (), most)
            self.assertEqual(count_run(L, (2,), (), most), min(most, 17))
            self.assertEqual(end, ("give", 2) if most >= 17 else ("going",))
            self.assertEqual(shown, (4,) if most >= 16 else ())
        self.assertEqual(whole[3], 17)

    def test_a_count_of_0_does_nothing_but_enter_block_0(self):
        for graph, values in ((L, (1,)), (D, (1, 2)), (K, ()), (ALL, (1, 2))):
            self.assertEqual(run(graph, values, (), 0), ((), ("going",)))
            self.assertEqual(visits(graph, values, (), 0), (0,))
            self.assertEqual(count_run(graph, values, (), 0), 0)

    def test_an_end_enters_the_next_block_at_once(self):
        self.assertEqual(visits(L, (1,), (), 2), (0,))
        self.assertEqual(visits(L, (1,), (), 3), (0, 1))
        self.assertEqual(visits(L, (1,), (), 4), (0, 1))
        self.assertEqual(visits(L, (1,), (), 5), (0, 1, 2))

    def test_cut_off_in_the_middle_of_a_block(self):
        graph = parse_graph("given;block 0;show a;show b;show c;go 0")
        for most in range(10):
            self.assertEqual(run(graph, (), (), most), ((0,) * (most - most // 4), ("going",)))


CHOOSING = parse_graph(
    "given a b;block 0;x = 3;y = 4;go 1;block 1;a = choose 0 a 2 b;b = choose 0 b 2 a;x = choose 0 y 2 x;show a;show b;show x;"
    "n = n + x;c = n < m;go 2;block 2;m = choose 1 n;pick c 3 1;block 3;give a")


class ChoicesTest(unittest.TestCase):
    def test_choices_are_performed_at_once(self):
        shown, end = run(CHOOSING, (1, 2), (), 3 + 9 + 2 + 6)
        self.assertEqual(shown, (1, 2, 4, 2, 1, 4))
        self.assertEqual(end, ("going",))

    def test_they_choose_by_the_block_come_from(self):
        text = (
            "given a;block 0;x = 1;y = 2;pick a 1 2;block 1;go 3;block 2;go 3;block 3;z = choose 1 x 2 y 3 w;w = choose 1 w 2 w 3 z;"
            "show z;n = n + x;c = n < k;k = 3;pick c 3 4;block 4;give z")
        self.assertEqual(ran(text, (1,))[0], told_run(parse_graph(text), (1,), (), 1000)[0])
        self.assertEqual(ran(text, (1,))[0][0], 1)
        self.assertEqual(ran(text, (0,))[0][0], 2)

    def test_the_block_come_from_is_the_last_one(self):
        text = "given;block 0;x = 5;go 1;block 1;z = choose 0 x 1 z 2 y;y = 6;n = n + k;k = 1;show z;pick n 2 1;block 2;go 1"
        self.assertEqual(run(parse_graph(text), (), (), 22)[0], (5, 5, 6))

    def test_the_count_may_pass_the_bound(self):
        expected = {
            2: (2, (0,)), 3: (3, (0, 1)), 4: (6, (0, 1)), 5: (6, (0, 1)), 6: (6, (0, 1)), 7: (7, (0, 1)), 11: (11, (0, 1)),
            12: (12, (0, 1, 2)), 13: (13, (0, 1, 2)), 14: (14, (0, 1, 2, 1)), 15: (17, (0, 1, 2, 1)), 16: (17, (0, 1, 2, 1)),
        }
        for most, (count, entered) in expected.items():
            self.assertEqual(count_run(CHOOSING, (1, 2), (), most), count, most)
            self.assertEqual(visits(CHOOSING, (1, 2), (), most), entered, most)

    def test_nothing_is_shown_behind_the_bound(self):
        self.assertEqual(run(CHOOSING, (1, 2), (), 4), ((), ("going",)))
        self.assertEqual(run(CHOOSING, (1, 2), (), 6), ((), ("going",)))
        self.assertEqual(run(CHOOSING, (1, 2), (), 7), ((1,), ("going",)))

    def test_the_count_at_the_greatest_bound(self):
        choices = ";".join(f"n{at} = choose 0 n{at} 1 n{at}" for at in range(59))
        graph = parse_graph(f"given;block 0;go 1;block 1;{choices};go 1")
        self.assertEqual(count_run(graph, (), (), 20000), 1 + 60 * 333 + 59)


class RandomTest(unittest.TestCase):
    def test_as_the_document_says(self):
        chance = random.Random(1)
        for _ in range(1500):
            graph = random_graph(chance, chance.randrange(2), 6, 6)
            values = tuple(chance.choice((0, 1, 2, 65535, chance.randrange(65536))) for _ in graph[0])
            answers = tuple(chance.randrange(65536) for _ in range(chance.randrange(5)))
            most = chance.choice((0, 1, 2, 5, 20, 60, 200))
            shown, end, entered, count = told_run(graph, values, answers, most)
            self.assertEqual(run(graph, values, answers, most), (shown, end))
            self.assertEqual(visits(graph, values, answers, most), entered)
            self.assertEqual(count_run(graph, values, answers, most), count)

    def test_equal_arguments_give_equal_results(self):
        chance = random.Random(2)
        for _ in range(50):
            graph = random_graph(chance)
            values = tuple(chance.randrange(65536) for _ in graph[0])
            self.assertEqual(run(graph, values, (1, 2), 100), run(copy.deepcopy(graph), values, (1, 2), 100))


class ArgumentsTest(unittest.TestCase):
    def check_invalid(self, error, graph, values, answers, most):
        for call in (run, visits, count_run):
            with self.assertRaises(error):
                call(graph, values, answers, most)

    def test_wrong_graphs_come_first(self):
        wrong = [(), 1, ((), ()), ((), (((("go", 0),), ("go", 0)),)), list(L), (L[0], list(L[1]))]
        for graph in oddities() + wrong:
            self.check_invalid(InvalidGraph, graph, (3,), (), 100)
            self.check_invalid(InvalidGraph, graph, None, [], True)

    def test_wrong_values(self):
        for values in oddities() + [(), (1, 2), 3, (-1,), (65536,), (10 ** 5000,), [3], "3", {0: 3}, ((3,),)]:
            self.check_invalid(InvalidValues, L, values, (), 100)
        for word in no_words():
            self.check_invalid(InvalidValues, L, (word,), (), 100)
            self.check_invalid(InvalidValues, D, (1, word), (), 100)
            self.check_invalid(InvalidValues, D, (word, 1), (), 100)
        for many in (1, 2, 5):
            self.check_invalid(InvalidValues, K, (1,) * many, (), 100)

    def test_wrong_answers(self):
        for answers in oddities() + [3, (-1,), (65536,), (1, -1), (10 ** 5000,), [], [3], "", {}]:
            self.check_invalid(InvalidValues, L, (3,), answers, 100)
        for word in no_words():
            self.check_invalid(InvalidValues, L, (3,), (1, word), 100)
            self.check_invalid(InvalidValues, L, (3,), (word, 1), 100)

    def test_sixty_answers_and_sixty_one(self):
        graph = parse_graph("given;block 0;x = ask;show x;pick x 0 1;block 1;give x")
        for many in (0, 1, 59, 60):
            self.assertEqual(run(graph, (), (7,) * many, 20000), ((7,) * many + (0,), ("give", 0)))
        for many in (61, 62, 1000):
            self.check_invalid(InvalidValues, graph, (), (7,) * many, 20000)

    def test_wrong_bounds(self):
        for most in oddities() + [(), (1,), -1, 20001, 10 ** 5000, -10 ** 5000]:
            self.check_invalid(InvalidValues, L, (3,), (), most)
        for most in (0, 1, 19999, 20000):
            self.assertEqual(count_run(parse_graph("given;block 0;go 0"), (), (), most), most)

    def test_no_argument_is_changed(self):
        for values, answers in (([3], []), ([], [1]), ([[3]], {"a": [1]})):
            before = copy.deepcopy((values, answers))
            self.check_invalid(InvalidValues, L, values, (), 10)
            self.check_invalid(InvalidValues, L, (3,), answers, 10)
            self.assertEqual((values, answers), before)


if __name__ == "__main__":
    unittest.main()
