"""Points 2.10 and 5: rows and spans."""

import copy
import itertools
import random
import unittest

from flowkeep.errors import InvalidRow
from flowkeep.spans import contains, count_rows, equations, form, holds, multipliers, same_span
from tests.samples import oddities


def times(row, factor):
    return tuple(number * factor % 65536 for number in row)


def plus(row, other):
    return tuple((one + two) % 65536 for one, two in zip(row, other))


def combined(rows, width, factors):
    total = (0,) * width
    for row, factor in zip(rows, factors):
        total = plus(total, times(row, factor))
    return total


def lead(row):
    return next((place for place, number in enumerate(row) if number), len(row))


def taken_away(row, formed):
    """Return what is left of the row, by the plain way of taking rows away place by place."""
    for one in formed:
        place = lead(one)
        row = plus(row, times(one, 65536 - row[place] // one[place]))
    return row


def whole_span(rows, width, step):
    """Return the set of all rows of a span of rows whose numbers are multiples of the step."""
    found = {(0,) * width}
    for row in rows:
        found = {plus(old, times(row, factor)) for old in found for factor in range(65536 // step)}
    return found


def random_word(chance):
    kind = chance.randrange(5)
    if kind == 0:
        return 0
    if kind == 1:
        return chance.randrange(5)
    if kind == 2:
        return chance.choice((32768, 16384, 49152, 65535, 65534, 4096))
    if kind == 3:
        return chance.randrange(65536) & ~((1 << chance.randrange(16)) - 1)
    return chance.randrange(65536)


def random_rows(chance, width, most):
    rows = [tuple(random_word(chance) for _ in range(width)) for _ in range(chance.randrange(most + 1))]
    if len(rows) > 2 and chance.randrange(2):
        rows[-1] = plus(times(rows[0], random_word(chance)), times(rows[1], random_word(chance)))
    return tuple(rows)


def samples():
    """Yield pairs of rows and a width."""
    chance = random.Random(1)
    for width in (1, 2, 3, 4, 7, 16):
        for most in (0, 1, 2, 3, 5, 16):
            for _ in range(4):
                yield random_rows(chance, width, most), width
    yield tuple(tuple(random_word(chance) for _ in range(16)) for _ in range(16)), 16
    yield tuple(tuple(32768 * chance.randrange(2) for _ in range(9)) for _ in range(16)), 9
    yield ((0,) * 16,) * 16, 16
    yield (), 16
    yield ((1,) * 16,) * 16, 16


class FormTest(unittest.TestCase):
    def test_examples(self):
        self.assertEqual(form(((2, 4), (0, 6)), 2), ((2, 0), (0, 2)))

    def test_small_cases(self):
        cases = [
            ((), 1, ()), ((), 16, ()), (((0,),), 1, ()), (((0, 0), (0, 0)), 2, ()),
            (((3,),), 1, ((1,),)), (((65535,),), 1, ((1,),)), (((32768,),), 1, ((32768,),)),
            (((6,), (4,)), 1, ((2,),)), (((2, 1),), 2, ((2, 1), (0, 32768))), (((32768, 1),), 2, ((32768, 1), (0, 2))),
            (((32768, 1), (0, 2)), 2, ((32768, 1), (0, 2))), (((1, 65535),), 2, ((1, 65535),)),
            (((3, 6),), 2, ((1, 2),)), (((0, 5), (5, 0)), 2, ((1, 0), (0, 1))), (((1, 7), (0, 4)), 2, ((1, 3), (0, 4))),
            (((16384, 16384),), 2, ((16384, 16384),)), (((16384, 1),), 2, ((16384, 1), (0, 4))),
            (((0, 32768, 3), (32768, 0, 0)), 3, ((32768, 0, 0), (0, 32768, 1), (0, 0, 2))),
        ]
        for rows, width, expected in cases:
            self.assertEqual(form(rows, width), expected, rows)

    def test_leads_are_rising_powers_of_two(self):
        for rows, width in samples():
            formed = form(rows, width)
            places = [lead(row) for row in formed]
            self.assertEqual(places, sorted(set(places)))
            for row, place in zip(formed, places):
                self.assertLess(place, width)
                self.assertIn(row[place], [1 << power for power in range(16)])

    def test_it_is_closed(self):
        for rows, width in samples():
            formed = form(rows, width)
            for at, row in enumerate(formed):
                more = times(row, 65536 // row[lead(row)])
                self.assertEqual(taken_away(more, formed[at + 1:]), (0,) * width)

    def test_it_is_short(self):
        for rows, width in samples():
            formed = form(rows, width)
            for at, row in enumerate(formed):
                for ahead in formed[:at]:
                    self.assertLess(ahead[lead(row)], row[lead(row)])

    def test_it_has_the_same_span(self):
        for rows, width in samples():
            formed = form(rows, width)
            for row in rows:
                self.assertEqual(taken_away(row, formed), (0,) * width)
            for row in formed:
                factors = multipliers(rows, width, row)
                self.assertEqual(combined(rows, width, factors), row)

    def test_it_is_made_of_tuples_of_words(self):
        for rows, width in samples():
            formed = form(rows, width)
            self.assertIs(type(formed), tuple)
            for row in formed:
                self.assertIs(type(row), tuple)
                self.assertEqual(len(row), width)
                self.assertTrue(all(type(number) is int and 0 <= number <= 65535 for number in row))

    def test_the_form_of_a_form_is_itself(self):
        for rows, width in samples():
            formed = form(rows, width)
            self.assertEqual(form(formed, width), formed)

    def test_it_depends_on_the_span_alone(self):
        chance = random.Random(2)
        for rows, width in samples():
            mixed = list(rows)
            chance.shuffle(mixed)
            for at in range(1, len(mixed)):
                mixed[at] = plus(mixed[at], times(mixed[at - 1], chance.randrange(65536)))
            mixed = [times(row, 2 * chance.randrange(32768) + 1) for row in mixed]
            self.assertEqual(form(tuple(mixed), width), form(rows, width))

    def test_conditions_by_all_rows_of_small_spans(self):
        chance = random.Random(3)
        for _ in range(60):
            width = chance.choice((1, 2, 3))
            rows = tuple(
                tuple(8192 * chance.randrange(8) for _ in range(width)) for _ in range(chance.randrange(4)))
            formed = form(rows, width)
            span = whole_span(rows, width, 8192)
            self.assertEqual(whole_span(formed, width, 8192), span)
            for place in range(width + 1):
                behind = [row for row in formed if lead(row) >= place]
                self.assertEqual(
                    whole_span(behind, width, 8192), {row for row in span if lead(row) >= place}, (rows, place))


class ContainsTest(unittest.TestCase):
    def test_examples(self):
        self.assertIs(contains(((2, 4),), 2, (4, 8)), True)
        self.assertIs(contains(((2, 4),), 2, (4, 9)), False)

    def test_sums_of_products_are_contained(self):
        chance = random.Random(4)
        for rows, width in samples():
            for _ in range(3):
                row = combined(rows, width, [chance.randrange(65536) for _ in rows])
                self.assertIs(contains(rows, width, row), True)

    def test_small_spans_by_all_rows(self):
        chance = random.Random(5)
        for _ in range(40):
            rows = tuple(tuple(16384 * chance.randrange(4) for _ in range(3)) for _ in range(chance.randrange(4)))
            span = whole_span(rows, 3, 16384)
            for row in itertools.product((0, 16384, 32768, 49152), repeat=3):
                self.assertIs(contains(rows, 3, row), row in span)
            self.assertIs(contains(rows, 3, (8192, 0, 0)), False)

    def test_edges(self):
        self.assertIs(contains((), 2, (0, 0)), True)
        self.assertIs(contains((), 2, (0, 1)), False)
        self.assertIs(contains(((2, 1),), 2, (0, 32768)), True)
        self.assertIs(contains(((2, 1),), 2, (0, 16384)), False)
        self.assertIs(contains(((32768,),), 1, (32768,)), True)
        self.assertIs(contains(((32768,),), 1, (16384,)), False)
        self.assertIs(contains(((3,),), 1, (65535,)), True)


class SameSpanTest(unittest.TestCase):
    def test_example(self):
        self.assertIs(same_span(((2, 4),), ((6, 12),), 2), True)

    def test_cases(self):
        cases = [
            ((), (), 3, True), ((), ((0, 0),), 2, True), (((0, 0), (0, 0)), (), 2, True), (((1,),), (), 1, False),
            (((2, 4),), ((1, 2),), 2, False), (((2, 4),), ((4, 8),), 2, False), (((1, 0), (0, 1)), ((1, 1), (0, 3)), 2, True),
            (((2, 1),), ((2, 1), (0, 32768)), 2, True), (((2, 1),), ((2, 1), (0, 16384)), 2, False),
            (((32768,),), ((32768,), (0,)), 1, True),
        ]
        for rows, others, width, same in cases:
            self.assertIs(same_span(rows, others, width), same, (rows, others))
            self.assertIs(same_span(others, rows, width), same, (others, rows))

    def test_it_is_containing_each_other(self):
        found = list(samples())
        for (rows, width), (others, other_width) in zip(found, found[1:]):
            if width == other_width:
                each = all(contains(rows, width, row) for row in others)
                each = each and all(contains(others, width, row) for row in rows)
                self.assertIs(same_span(rows, others, width), each)


class CountRowsTest(unittest.TestCase):
    def test_cases(self):
        cases = [
            (((32768, 0),), 2, 2), ((), 1, 1), (((0, 0),), 2, 1), (((1, 5),), 2, 65536), (((2, 4),), 2, 32768),
            (((2, 1),), 2, 65536), (((3, 0), (0, 3)), 2, 65536 ** 2), (((32768, 32768), (32768, 0)), 2, 4),
            (tuple(tuple(1 if at == place else 0 for at in range(16)) for place in range(16)), 16, 2 ** 256),
        ]
        for rows, width, count in cases:
            self.assertEqual(count_rows(rows, width), count, rows)

    def test_small_spans_by_all_rows(self):
        chance = random.Random(6)
        for _ in range(40):
            rows = tuple(tuple(8192 * chance.randrange(8) for _ in range(2)) for _ in range(chance.randrange(4)))
            self.assertEqual(count_rows(rows, 2), len(whole_span(rows, 2, 8192)))


class EquationsTest(unittest.TestCase):
    def test_example(self):
        self.assertEqual(equations(((1, 2),), 2), ((2, 32767), (0, 32768)))

    def test_small_cases(self):
        cases = [
            ((), 1, ((1,),)), ((), 2, ((1, 0), (0, 1))), (((0, 0),), 2, ((1, 0), (0, 1))), (((1,),), 1, ()),
            (((2,),), 1, ((32768,),)), (((32768,),), 1, ((2,),)), (((1, 65535),), 2, ((1, 1),)),
            (((1, 0), (0, 1)), 2, ()),
        ]
        for rows, width, expected in cases:
            self.assertEqual(equations(rows, width), expected, rows)

    def test_each_holds(self):
        for rows, width in samples():
            for equation in equations(rows, width):
                for row in rows:
                    self.assertEqual(sum(one * two for one, two in zip(row, equation)) % 65536, 0)

    def test_the_equations_of_the_equations_are_the_form(self):
        for rows, width in samples():
            found = equations(rows, width)
            if len(found) <= 16:
                self.assertEqual(equations(found, width), form(rows, width))

    def test_both_spans_together_have_all_rows(self):
        for rows, width in samples():
            found = equations(rows, width)
            self.assertEqual(count_rows(rows, width) * count_rows(found, width), 65536 ** width)

    def test_they_are_a_form(self):
        for rows, width in samples():
            found = equations(rows, width)
            self.assertEqual(form(found, width), found)

    def test_all_equations_of_small_spans(self):
        chance = random.Random(7)
        for _ in range(20):
            rows = tuple(tuple(8192 * chance.randrange(8) for _ in range(2)) for _ in range(chance.randrange(1, 4)))
            found = equations(rows, 2)
            for equation in itertools.product(range(9), repeat=2):
                right = all(sum(one * two for one, two in zip(row, equation)) % 65536 == 0 for row in rows)
                self.assertIs(contains(found, 2, equation), right)


class HoldsTest(unittest.TestCase):
    def test_cases(self):
        cases = [
            (((1, 2),), 2, (65534, 1), True), (((1, 2),), 2, (1, 1), False), ((), 2, (1, 1), True),
            (((1, 2), (0, 1)), 2, (65534, 1), False), (((1, 2), (2, 4)), 2, (65534, 1), True), (((5,),), 1, (0,), True),
            (((32768,),), 1, (2,), True), (((32768,),), 1, (1,), False), (((1, 1),), 2, (32768, 32768), True),
            (((0, 1), (1, 2)), 2, (65534, 1), False),
        ]
        for rows, width, equation, right in cases:
            self.assertIs(holds(rows, width, equation), right, (rows, equation))

    def test_it_is_containing_by_the_equations(self):
        chance = random.Random(8)
        for rows, width in samples():
            found = equations(rows, width)
            one = combined(found, width, [chance.randrange(65536) for _ in found])
            other = tuple(random_word(chance) for _ in range(width))
            self.assertIs(holds(rows, width, one), True)
            self.assertIs(holds(rows, width, other), contains(found, width, other))


class MultipliersTest(unittest.TestCase):
    def test_cases(self):
        cases = [
            (((2, 4), (0, 1)), 2, (2, 5), (1, 1)), ((), 2, (0, 0), ()), ((), 2, (0, 1), None), (((2,),), 1, (1,), None),
            (((1,),), 1, (65535,), (65535,)), (((0,),), 1, (0,), (0,)), (((0,),), 1, (1,), None),
            (((1,), (1,)), 1, (7,), (0, 7)),
        ]
        for rows, width, row, expected in cases:
            self.assertEqual(multipliers(rows, width, row), expected, (rows, row))

    def test_the_sum_is_the_row(self):
        chance = random.Random(9)
        for rows, width in samples():
            row = combined(rows, width, [random_word(chance) for _ in rows])
            found = multipliers(rows, width, row)
            self.assertIs(type(found), tuple)
            self.assertEqual(len(found), len(rows))
            self.assertTrue(all(type(number) is int and 0 <= number <= 65535 for number in found))
            self.assertEqual(combined(rows, width, found), row)

    def test_none_just_for_rows_outside(self):
        chance = random.Random(10)
        for rows, width in samples():
            row = tuple(random_word(chance) for _ in range(width))
            self.assertIs(multipliers(rows, width, row) is None, not contains(rows, width, row))


CALLS = [
    ("form", lambda rows, width, row: form(rows, width)),
    ("contains", contains),
    ("same_span", lambda rows, width, row: same_span(rows, ((1, 2),), width)),
    ("same_span, others", lambda rows, width, row: same_span(((1, 2),), rows, width)),
    ("count_rows", lambda rows, width, row: count_rows(rows, width)),
    ("equations", lambda rows, width, row: equations(rows, width)),
    ("holds", holds),
    ("multipliers", multipliers),
]
WITH_ROW = [("contains", contains), ("holds", holds), ("multipliers", multipliers)]


class ArgumentsTest(unittest.TestCase):
    def check_invalid(self, calls, rows, width, row):
        for name, call in calls:
            with self.assertRaises(InvalidRow, msg=name):
                call(rows, width, row)

    def test_wrong_widths(self):
        for width in oddities() + [(), 0, 17, -1, 10 ** 30, 3, 1]:
            self.check_invalid(CALLS, ((1, 2),), width, (1, 2))

    def test_a_width_that_is_true_is_none(self):
        self.check_invalid(CALLS, ((1,),), True, (1,))

    def test_a_width_out_of_bounds_is_none_without_rows_too(self):
        for width in (0, 17, -1, True, None, 1.0):
            self.check_invalid(CALLS[:1] + CALLS[4:6], (), width, ())
            with self.assertRaises(InvalidRow):
                same_span((), (), width)

    def test_rows_of_a_width_beyond_are_none(self):
        self.check_invalid(CALLS, ((1,) * 17,), 17, (1,) * 17)

    def test_wrong_rows(self):
        for rows in oddities() + [0, 1]:
            self.check_invalid(CALLS, rows, 2, (1, 2))

    def test_rows_with_a_wrong_one(self):
        for row in oddities() + [(), (1,), (1, 2, 3), 7, (1, 65536), (-1, 0), (1, 2.0), (True, 0), (0, False), [1, 2]]:
            self.check_invalid(CALLS, ((1, 2), row), 2, (1, 2))
            self.check_invalid(CALLS, (row, (1, 2)), 2, (1, 2))

    def test_rows_with_a_wrong_number(self):
        for number in oddities() + [(), -1, 65536, 10 ** 5000]:
            self.check_invalid(CALLS, ((1, number),), 2, (1, 2))

    def test_wrong_single_rows(self):
        for row in oddities() + [(), (1,), (1, 2, 3), 7, (1, 65536), (-1, 0), (1, 2.0), (True, 0), (0, False), [1, 2]]:
            self.check_invalid(WITH_ROW, ((1, 2),), 2, row)

    def test_sixteen_rows_and_seventeen(self):
        for name, call in CALLS[:2] + CALLS[4:]:
            call(((1, 2),) * 16, 2, (1, 2))
        same_span(((1, 2),) * 16, ((1, 2),) * 16, 2)
        self.check_invalid(CALLS, ((1, 2),) * 17, 2, (1, 2))

    def test_widths_from_one_to_sixteen(self):
        for width in range(1, 17):
            self.assertEqual(form(((2,) * width,), width)[0], (2,) * width)

    def test_no_argument_is_changed(self):
        for rows in ([[2, 4], (0, 6)], [(2, 4)], ((2, 4), [0, 6])):
            before = copy.deepcopy(rows)
            self.check_invalid(CALLS, rows, 2, (1, 2))
            self.assertEqual(rows, before)

    def test_equal_arguments_give_equal_results(self):
        for rows, width in list(samples())[::9]:
            self.assertEqual(form(rows, width), form(copy.deepcopy(rows), width))


if __name__ == "__main__":
    unittest.main()
