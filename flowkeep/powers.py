"""Formulas of sums, differences and products of words, and when they have equal values for all words."""

from math import factorial

from flowkeep.errors import InvalidFormula, InvalidValues
from flowkeep.words import SIZE, are_words, inverse, is_integer, is_word, reckoned

DEEPEST = 8
MOST_INPUTS = 2
# The product of 18 numbers in a row is a multiple of 65536: the values at 0 to 17 tell a function.
POINTS = 18


def check_inputs(inputs):
    """Raise InvalidValues if the number of inputs is not an integer from 0 to 2."""
    if not is_integer(inputs) or not 0 <= inputs <= MOST_INPUTS:
        raise InvalidValues("the number of inputs must be an integer from 0 to 2")


def check_formula(formula, inputs):
    """Raise InvalidFormula if the formula is not one of so many inputs."""
    if not _is_nested(formula, inputs, DEEPEST):
        raise InvalidFormula("a formula must be made of so many inputs, and at most 8 deep")


def _is_nested(value, inputs, deep):
    """Return whether the value is a formula of so many inputs, nested at most so deep."""
    if deep == 0 or not isinstance(value, tuple) or len(value) not in (2, 3):
        return False
    kind = value[0]
    if len(value) == 3:
        return (kind in ("add", "sub", "mul") and _is_nested(value[1], inputs, deep - 1)
                and _is_nested(value[2], inputs, deep - 1))
    if kind == "in":
        return is_integer(value[1]) and 0 <= value[1] < inputs
    return kind == "num" and is_word(value[1])


def _points(inputs):
    """Return the ascending list of all points of so many integers from 0 to 17."""
    points = [()]
    for _ in range(inputs):
        points = [(*point, number) for point in points for number in range(POINTS)]
    return points


def _values_at(formula, points):
    """Return the list of the values of the formula at the points."""
    kind = formula[0]
    if kind == "in":
        return [point[formula[1]] for point in points]
    if kind == "num":
        return [formula[1] for _ in points]
    ones = _values_at(formula[1], points)
    others = _values_at(formula[2], points)
    return [reckoned(kind, one, other) for one, other in zip(ones, others)]


def _differences(column):
    """Return the first number of the column, of its differences, of the differences of those, and so on."""
    found = []
    while column:
        found.append(column[0])
        column = [reckoned("sub", later, earlier) for earlier, later in zip(column, column[1:])]
    return found


def _all_differences(numbers):
    """Return the differences at 0, along each input in turn, of the values at all points."""
    found = list(numbers)
    stride = 1
    while stride < len(found):
        for start in range(len(found)):
            if start // stride % POINTS == 0:
                places = [start + stride * step for step in range(POINTS)]
                column = _differences([found[place] for place in places])
                for place, number in zip(places, column):
                    found[place] = number
        stride = stride * POINTS
    return found


def _number(point, difference):
    """Return the number of the normal form at the point, which times the factorials is the difference."""
    factorials = 1
    for part in point:
        factorials = factorials * factorial(part)
    power = factorials & -factorials
    if power >= SIZE:
        return 0
    return difference // power * inverse(factorials // power % SIZE) % (SIZE // power)


def _normal(formula, inputs):
    """Return the normal form of a formula that is one of so many inputs."""
    points = _points(inputs)
    differences = _all_differences(_values_at(formula, points))
    pairs = [(point, _number(point, difference)) for point, difference in zip(points, differences)]
    return tuple([pair for pair in pairs if pair[1] != 0])


def is_formula(inputs, value):
    """Return whether the value is a formula of so many inputs."""
    check_inputs(inputs)
    return _is_nested(value, inputs, DEEPEST)


def value(formula, values):
    """Return the value of the formula if the inputs have the values."""
    if not isinstance(values, tuple) or len(values) > MOST_INPUTS or not are_words(values, len(values)):
        raise InvalidValues("the values must be a tuple of at most 2 words")
    check_formula(formula, len(values))
    return _values_at(formula, [values])[0]


def normal(formula, inputs):
    """Return the normal form of the function that the formula tells."""
    check_inputs(inputs)
    check_formula(formula, inputs)
    return _normal(formula, inputs)


def same_function(one, other, inputs):
    """Return whether both formulas have equal values for all words."""
    check_inputs(inputs)
    check_formula(one, inputs)
    check_formula(other, inputs)
    return _normal(one, inputs) == _normal(other, inputs)


def parting(one, other, inputs):
    """Return the least tuple of words for which the formulas have unlike values, or None."""
    check_inputs(inputs)
    check_formula(one, inputs)
    check_formula(other, inputs)
    points = _points(inputs)
    for at, pair in enumerate(zip(_values_at(one, points), _values_at(other, points))):
        if pair[0] != pair[1]:
            return points[at]
    return None


def degree(formula, inputs):
    """Return the greatest sum of a point in the normal form of the formula, 0 if it has none."""
    check_inputs(inputs)
    check_formula(formula, inputs)
    return max([sum(point) for point, _ in _normal(formula, inputs)], default=0)
