"""Point 6: formulas."""

import copy
import itertools
import math
import random
import unittest

from flowkeep.errors import InvalidFormula, InvalidValues
from flowkeep.powers import degree, is_formula, normal, parting, same_function, value
from tests.samples import no_words, oddities

X = ("in", 0)
Y = ("in", 1)


def num(word):
    return ("num", word)


def add(one, other):
    return ("add", one, other)


def sub(one, other):
    return ("sub", one, other)


def mul(one, other):
    return ("mul", one, other)


def nested(deep, inner=X):
    """Return a formula that is so much deeper than the inner one."""
    for at in range(deep):
        inner = (("add", "sub", "mul")[at % 3], inner, num(at)) if at % 2 else ("mul", num(3), inner)
    return inner


def random_formula(chance, inputs, deep):
    if deep == 1 or chance.randrange(6) == 0:
        if inputs and chance.randrange(3):
            return ("in", chance.randrange(inputs))
        return num(chance.choice((0, 1, 2, 3, 5, 32768, 16384, 65535, chance.randrange(65536))))
    kind = chance.choice(("add", "sub", "mul", "mul"))
    return (kind, random_formula(chance, inputs, deep - 1), random_formula(chance, inputs, deep - 1))


def told_value(formula, values):
    """Return the value of the formula, by whole numbers that go round at the end alone."""
    def whole(part):
        if part[0] == "in":
            return values[part[1]]
        if part[0] == "num":
            return part[1]
        one, other = whole(part[1]), whole(part[2])
        return one + other if part[0] == "add" else one - other if part[0] == "sub" else one * other
    return whole(formula) % 65536


def falling(number, many):
    return math.prod(number - at for at in range(many))


def value_of_normal(pairs, values):
    """Return the value that a normal form tells."""
    total = 0
    for point, number in pairs:
        total += number * math.prod(falling(one, many) for one, many in zip(values, point))
    return total % 65536


def power_of(point):
    """Return the greatest power of 2 that divides the factorials of the point."""
    product = math.prod(math.factorial(part) for part in point)
    return product & -product


def random_values(chance, inputs):
    return tuple(chance.choice((0, 1, 17, 18, 32768, 65535, chance.randrange(65536))) for _ in range(inputs))


def nothing(inputs):
    """Return formulas whose values are all 0, though they do not look so."""
    if inputs == 0:
        return [sub(num(5), num(5)), mul(num(256), num(256))]
    found = [mul(num(32768), mul(X, add(X, num(1)))), mul(num(32768), mul(X, sub(X, num(1))))]
    four = mul(mul(X, sub(X, num(1))), mul(sub(X, num(2)), sub(X, num(3))))
    found.append(mul(num(8192), four))
    if inputs == 2:
        found.append(mul(num(16384), mul(mul(X, sub(X, num(1))), mul(Y, add(Y, num(1))))))
        found.append(sub(mul(X, Y), mul(Y, X)))
    return found


class IsFormulaTest(unittest.TestCase):
    def test_plain_ones(self):
        for inputs in (0, 1, 2):
            for formula in (num(0), num(65535), add(num(1), num(2)), sub(num(1), num(2)), mul(num(1), num(2))):
                self.assertIs(is_formula(inputs, formula), True)

    def test_inputs_are_below_the_number(self):
        for inputs in (0, 1, 2):
            for at in range(4):
                self.assertIs(is_formula(inputs, ("in", at)), at < inputs)
                self.assertIs(is_formula(inputs, add(num(1), ("in", at))), at < inputs)
            self.assertIs(is_formula(inputs, ("in", -1)), False)

    def test_depths(self):
        for deep in range(1, 9):
            self.assertIs(is_formula(1, nested(deep - 1)), True, deep)
        for deep in (9, 10, 30, 100, 5000):
            self.assertIs(is_formula(1, nested(deep - 1)), False, deep)

    def test_one_side_too_deep(self):
        self.assertIs(is_formula(1, add(nested(6), X)), True)
        self.assertIs(is_formula(1, add(X, nested(6))), True)
        self.assertIs(is_formula(1, add(nested(7), X)), False)
        self.assertIs(is_formula(1, add(X, nested(7))), False)

    def test_full_depth_on_both_sides(self):
        formula = X
        for _ in range(7):
            formula = mul(formula, formula)
        self.assertIs(is_formula(1, formula), True)
        self.assertIs(is_formula(1, mul(formula, formula)), False)

    def test_wrong_forms(self):
        wrong = [
            (), ("in",), ("num",), ("add",), ("add", X), ("in", 0, 0), ("num", 1, 2), ("add", X, X, X), ("sub", X), ("mul", X),
            ("div", X, X), ("less", X, X), ("times", X, 3), ("neg", X), ("", 0), ("IN", 0), ("num", -1), ("num", 65536),
            ("num", 10 ** 5000), ["num", 1], ("add", X, ["num", 1]), ("add", 1, 2), ("add", "in", "in"), (0, "in"), "in", 5,
            ("in", True), ("in", False), ("num", True), ("num", 1.0), ("in", 0.0), ("in", "0"), ("in", None),
            ("in", (0,)), ("num", [1]), ("num", X), ("in", X), ("add", X, ()), ("add", (), X), (("in", 0),), ("n", 1),
            ("num", num(1)), add(X, ("num", True)), ("in", "num"), ("add", "sub"),
        ]
        for formula in wrong + oddities():
            self.assertIs(is_formula(2, formula), False, formula)
            self.assertIs(is_formula(2, add(X, formula)), False, formula)
            self.assertIs(is_formula(2, mul(formula, X)), False, formula)

    def test_odd_kinds(self):
        for kind in oddities() + [(), 0]:
            self.assertIs(is_formula(2, (kind, 0)), False)
            self.assertIs(is_formula(2, (kind, X, X)), False)
            self.assertIs(is_formula(2, ("in", kind)), kind == 0 and type(kind) is int)
            self.assertIs(is_formula(2, ("num", kind)), kind == 0 and type(kind) is int)

    def test_wrong_numbers_of_inputs(self):
        for inputs in oddities() + [(), -1, 3, 10 ** 30]:
            with self.assertRaises(InvalidValues):
                is_formula(inputs, num(1))


class ValueTest(unittest.TestCase):
    def test_cases(self):
        cases = [
            (mul(X, X), (3,), 9), (num(5), (), 5), (num(5), (1, 2), 5), (X, (65535,), 65535), (Y, (1, 2), 2),
            (sub(X, Y), (1, 2), 65535), (add(X, Y), (65535, 1), 0), (mul(X, X), (256,), 0), (mul(X, Y), (65535, 65535), 1),
            (sub(num(0), num(1)), (), 65535),
        ]
        for formula, values, expected in cases:
            self.assertEqual(value(formula, values), expected, formula)

    def test_random_ones(self):
        chance = random.Random(1)
        for _ in range(300):
            inputs = chance.randrange(3)
            formula = random_formula(chance, inputs, chance.randrange(1, 9))
            values = random_values(chance, inputs)
            self.assertEqual(value(formula, values), told_value(formula, values))

    def test_wrong_values_come_first(self):
        for values in oddities() + [(1, 2, 3), 3, (-1,), (65536,), (1, True), (1, None), [1], (10 ** 5000,)]:
            for formula in (num(1), None, ("in", 5)):
                with self.assertRaises(InvalidValues):
                    value(formula, values)

    def test_each_wrong_word(self):
        for word in no_words():
            for values in ((word,), (word, 1), (1, word)):
                with self.assertRaises(InvalidValues):
                    value(num(1), values)

    def test_wrong_formulas(self):
        for formula in oddities() + [(), 3, ("in", 1), ("in", 2), ("num", 65536), nested(8)]:
            with self.assertRaises(InvalidFormula):
                value(formula, (1,))
        with self.assertRaises(InvalidFormula):
            value(X, ())
        with self.assertRaises(InvalidFormula):
            value(Y, (1,))


class NormalTest(unittest.TestCase):
    def test_cases(self):
        cases = [
            (mul(X, X), 1, (((1,), 1), ((2,), 1))), (mul(num(32768), mul(X, add(X, num(1)))), 1, ()), (num(0), 0, ()),
            (num(7), 0, (((), 7),)), (num(65535), 0, (((), 65535),)), (num(7), 2, (((0, 0), 7),)), (X, 1, (((1,), 1),)),
            (Y, 2, (((0, 1), 1),)), (X, 2, (((1, 0), 1),)), (mul(X, Y), 2, (((1, 1), 1),)),
            (sub(num(0), X), 1, (((1,), 65535),)), (add(X, num(3)), 1, (((0,), 3), ((1,), 1))),
            (sub(num(0), mul(X, X)), 1, (((1,), 65535), ((2,), 32767))),
        ]
        for formula, inputs, expected in cases:
            self.assertEqual(normal(formula, inputs), expected, formula)

    def test_highest_points(self):
        power = X
        for _ in range(5):
            power = mul(power, power)
        power = mul(power, X)
        self.assertEqual(dict(normal(power, 1))[(17,)], 1)
        points = dict(normal(mul(power, mul(Y, Y)), 2))
        self.assertEqual(points[(17, 1)], 1)
        self.assertNotIn((17, 2), points)

    def test_random_ones(self):
        chance = random.Random(2)
        for _ in range(120):
            inputs = chance.randrange(3)
            formula = random_formula(chance, inputs, chance.randrange(1, 9))
            pairs = normal(formula, inputs)
            self.assertIs(type(pairs), tuple)
            points = [point for point, _ in pairs]
            self.assertEqual(points, sorted(set(points)))
            for point, number in pairs:
                self.assertEqual(len(point), inputs)
                self.assertTrue(all(0 <= part <= 17 for part in point))
                self.assertLess(power_of(point), 65536)
                self.assertTrue(0 < number < 65536 // power_of(point), (point, number))
            for _ in range(5):
                values = random_values(chance, inputs)
                self.assertEqual(value_of_normal(pairs, values), told_value(formula, values))

    def test_sums_that_are_always_zero_change_nothing(self):
        chance = random.Random(3)
        for _ in range(40):
            inputs = chance.randrange(3)
            formula = random_formula(chance, inputs, 4)
            for more in nothing(inputs):
                self.assertEqual(normal(more, inputs), ())
                self.assertEqual(normal(add(formula, more), inputs), normal(formula, inputs))

    def test_just_short_of_zero(self):
        self.assertEqual(normal(mul(num(16384), mul(X, sub(X, num(1)))), 1), (((2,), 16384),))
        self.assertEqual(normal(mul(num(32768), X), 1), (((1,), 32768),))


class SameFunctionTest(unittest.TestCase):
    def test_example(self):
        self.assertIs(same_function(add(X, X), mul(num(2), X), 1), True)

    def test_laws(self):
        laws = [
            (mul(add(X, Y), add(X, Y)), add(mul(X, X), add(mul(num(2), mul(X, Y)), mul(Y, Y))), True),
            (mul(add(X, Y), sub(X, Y)), sub(mul(X, X), mul(Y, Y)), True), (sub(X, Y), sub(Y, X), False),
            (mul(X, Y), mul(Y, X), True), (X, Y, False), (mul(num(32768), X), mul(num(32768), mul(X, X)), True),
            (mul(num(16384), X), mul(num(16384), mul(X, X)), False), (sub(X, num(1)), add(X, num(65535)), True),
        ]
        for one, other, same in laws:
            self.assertIs(same_function(one, other, 2), same)
            self.assertIs(same_function(other, one, 2), same)

    def test_it_is_having_equal_normal_forms_and_no_parting(self):
        chance = random.Random(4)
        for _ in range(150):
            inputs = chance.randrange(3)
            one = random_formula(chance, inputs, 3)
            other = random_formula(chance, inputs, 3)
            if chance.randrange(2):
                other = add(one, mul(num(chance.choice((0, 32768, 16384))), other))
            same = same_function(one, other, inputs)
            self.assertIs(same, normal(one, inputs) == normal(other, inputs))
            self.assertIs(same, parting(one, other, inputs) is None)

    def test_one_input_by_all_words(self):
        chance = random.Random(5)
        for _ in range(6):
            one = random_formula(chance, 1, 3)
            other = add(one, mul(num(32768), mul(random_formula(chance, 1, 2), add(X, num(chance.randrange(2))))))
            same = all(told_value(one, (word,)) == told_value(other, (word,)) for word in range(65536))
            self.assertIs(same_function(one, other, 1), same)


class PartingTest(unittest.TestCase):
    def test_cases(self):
        cases = [
            (X, mul(X, X), 1, (2,)), (num(1), num(1), 0, None), (num(1), num(2), 0, ()), (X, X, 2, None), (X, Y, 2, (0, 1)),
            (mul(X, Y), num(0), 2, (1, 1)), (X, num(0), 2, (1, 0)), (num(0), num(1), 2, (0, 0)), (Y, num(0), 2, (0, 1)),
        ]
        for one, other, inputs, expected in cases:
            self.assertEqual(parting(one, other, inputs), expected)

    def test_late_ones(self):
        def product(many, of):
            found = of
            for at in range(1, many):
                found = mul(found, sub(of, num(at)))
            return found
        for many in range(1, 8):
            self.assertEqual(parting(product(many, X), num(0), 1), (many,))
            self.assertEqual(parting(product(many, Y), num(0), 2), (0, many))
            self.assertEqual(parting(product(many, X), num(0), 2), (many, 0))

    def test_the_latest(self):
        half = [mul(sub(X, num(at)), sub(X, num(at + 1))) for at in range(0, 16, 2)]
        while len(half) > 1:
            half = [mul(half[at], half[at + 1]) for at in range(0, len(half), 2)]
        self.assertEqual(parting(half[0], num(0), 1), (16,))
        self.assertEqual(parting(mul(half[0], sub(X, num(16))), num(0), 1), (17,))
        self.assertEqual(parting(mul(half[0], mul(sub(X, num(16)), sub(X, num(17)))), num(0), 1), None)
        self.assertEqual(parting(mul(half[0], mul(sub(X, num(16)), Y)), num(0), 2), (17, 1))

    def test_it_is_the_least(self):
        chance = random.Random(6)
        for _ in range(100):
            inputs = chance.randrange(3)
            one = random_formula(chance, inputs, 4)
            low = num(chance.choice((0, 4096, 32768)))
            other = add(one, mul(low, random_formula(chance, inputs, 3)))
            found = parting(one, other, inputs)
            for point in itertools.product(range(18), repeat=inputs):
                unlike = told_value(one, point) != told_value(other, point)
                self.assertEqual(unlike and (found is None or point < found), False)
                if point == found:
                    self.assertTrue(unlike)
            if found is None:
                for _ in range(20):
                    values = random_values(chance, inputs)
                    self.assertEqual(told_value(one, values), told_value(other, values))


class DegreeTest(unittest.TestCase):
    def test_cases(self):
        cases = [
            (mul(X, X), 1, 2), (num(0), 0, 0), (num(5), 2, 0), (X, 1, 1), (mul(X, Y), 2, 2), (mul(mul(X, X), Y), 2, 3),
            (mul(num(32768), mul(X, X)), 1, 1), (mul(num(32768), mul(X, add(X, num(1)))), 1, 0), (sub(X, X), 1, 0),
            (add(mul(X, X), mul(mul(Y, Y), Y)), 2, 3),
        ]
        for formula, inputs, expected in cases:
            self.assertEqual(degree(formula, inputs), expected)

    def test_it_is_the_greatest_sum(self):
        chance = random.Random(7)
        for _ in range(60):
            inputs = chance.randrange(3)
            formula = random_formula(chance, inputs, 5)
            sums = [sum(point) for point, _ in normal(formula, inputs)]
            self.assertEqual(degree(formula, inputs), max(sums + [0]))


def told_normal(formula, inputs):
    """Return the normal form, by the differences of the values at all points from 0 to 17."""
    found = []
    values = {point: told_value(formula, point) for point in itertools.product(range(18), repeat=inputs)}
    for point in sorted(values):
        difference = sum(
            (-1) ** (sum(point) - sum(other)) * math.prod(math.comb(one, its) for one, its in zip(point, other)) * values[other]
            for other in itertools.product(*(range(one + 1) for one in point)))
        power = power_of(point)
        if power < 65536:
            odd = math.prod(math.factorial(part) for part in point) // power
            number = difference // power * pow(odd, -1, 65536) % (65536 // power)
            if number:
                found.append((point, number))
    return tuple(found)


class DegreesTest(unittest.TestCase):
    """Only as many points are looked at as the powers in a formula ask for; they must be enough."""

    def test_one_input_by_all_points(self):
        chance = random.Random(8)
        for _ in range(60):
            formula = random_formula(chance, 1, chance.randrange(1, 9))
            self.assertEqual(normal(formula, 1), told_normal(formula, 1))

    def test_two_inputs_by_all_points(self):
        chance = random.Random(9)
        for _ in range(4):
            formula = mul(random_formula(chance, 2, 4), add(mul(X, mul(X, Y)), random_formula(chance, 2, 4)))
            self.assertEqual(normal(formula, 2), told_normal(formula, 2))

    def test_powers_above_17(self):
        square = mul(X, X)
        eighth = mul(mul(square, square), mul(square, square))
        sixteenth = mul(eighth, eighth)
        for formula in (sixteenth, mul(sixteenth, X), mul(sixteenth, square), mul(sixteenth, sixteenth), mul(mul(sixteenth, sixteenth), X)):
            self.assertEqual(normal(formula, 1), told_normal(formula, 1))
            for word in (0, 1, 2, 3, 17, 18, 255, 32768, 65535):
                self.assertEqual(value_of_normal(normal(formula, 1), (word,)), told_value(formula, (word,)))
                self.assertEqual(value_of_normal(normal(mul(formula, Y), 2), (word, 5)), told_value(mul(formula, Y), (word, 5)))

    def test_points_that_part_formulas_of_unlike_powers(self):
        self.assertEqual(parting(mul(num(32768), mul(X, mul(X, X))), mul(num(32768), X), 1), None)
        self.assertEqual(parting(mul(num(16384), mul(X, mul(X, X))), mul(num(16384), X), 1), (2,))
        self.assertEqual(parting(mul(X, Y), mul(X, mul(Y, Y)), 2), (1, 2))
        self.assertEqual(parting(num(3), mul(mul(Y, Y), num(3)), 2), (0, 0))
        self.assertEqual(parting(X, mul(mul(Y, Y), num(3)), 2), (0, 1))

    def test_points_far_out_in_both_inputs(self):
        # x (x - 1) .. (x - 5) y (y - 1) .. (y - 7) is a multiple of 2 to the 4th times 2 to the 7th.
        first = mul(mul(mul(X, sub(X, num(1))), mul(sub(X, num(2)), sub(X, num(3)))), mul(sub(X, num(4)), sub(X, num(5))))
        other = mul(mul(mul(Y, sub(Y, num(1))), mul(sub(Y, num(2)), sub(Y, num(3)))), mul(mul(sub(Y, num(4)), sub(Y, num(5))), mul(sub(Y, num(6)), sub(Y, num(7)))))
        for factor, same in ((16, False), (32, True), (31, False), (64, True)):
            formula = mul(num(factor), mul(first, other))
            self.assertIs(same_function(formula, num(0), 2), same)
            self.assertEqual(parting(formula, num(0), 2), None if same else (6, 8))
            self.assertEqual(normal(formula, 2) == (), same)

    def test_many_thousands_of_calls(self):
        h = mul(add(X, Y), sub(X, num(3)))
        for _ in range(5):
            h = mul(h, add(Y, num(7)))
        for at in range(6000):
            other = num(at)
            self.assertIs(same_function(X, other, 2), False)
        for at in range(1500):
            self.assertIs(same_function(h, (h[0], h[2], h[1]), 2), True)
            self.assertEqual(normal(h, 2)[-1][0], (2, 5))
            self.assertEqual(degree(h, 2), 7)


class ArgumentsTest(unittest.TestCase):
    calls = [
        lambda formula, inputs: normal(formula, inputs), lambda formula, inputs: degree(formula, inputs),
        lambda formula, inputs: same_function(formula, X, inputs),
        lambda formula, inputs: same_function(X, formula, inputs),
        lambda formula, inputs: parting(formula, X, inputs), lambda formula, inputs: parting(X, formula, inputs),
    ]

    def test_wrong_inputs_come_first(self):
        for inputs in oddities() + [(), -1, 3, 10 ** 30]:
            for call in self.calls:
                for formula in (num(1), None, ("in", 2), []):
                    with self.assertRaises(InvalidValues):
                        call(formula, inputs)

    def test_wrong_formulas(self):
        for formula in oddities() + [(), 5, ("in", 1), ("in", -1), ("num", 65536), ("num", -1), nested(8), ["num", 1]]:
            for call in self.calls:
                with self.assertRaises(InvalidFormula):
                    call(formula, 1)

    def test_formulas_of_more_inputs(self):
        for call in self.calls[:2]:
            with self.assertRaises(InvalidFormula):
                call(X, 0)
            with self.assertRaises(InvalidFormula):
                call(mul(X, Y), 1)
            call(mul(X, Y), 2)
            call(nested(7), 1)

    def test_no_argument_is_changed(self):
        for formula in (["num", 1], ("add", ["num", 1], X), {"add": [X, X]}):
            before = copy.deepcopy(formula)
            self.assertIs(is_formula(1, formula), False)
            for call in self.calls:
                with self.assertRaises(InvalidFormula):
                    call(formula, 1)
            self.assertEqual(formula, before)
        values = [1, 2]
        with self.assertRaises(InvalidValues):
            value(X, values)
        self.assertEqual(values, [1, 2])


if __name__ == "__main__":
    unittest.main()
