"""Formulas of sums, differences and products of words, and when they have equal values for all words."""

from flowkeep.errors import InvalidFormula, InvalidValues
from flowkeep.words import BITS, SIZE, are_words, inverse, is_integer, is_word

DEEPEST = 8
MOST_INPUTS = 2
# The product of 18 numbers in a row is a multiple of 65536: the values at 0 to 17 tell a function.
HIGHEST = 17
# How often 2 divides the factorials of 0 to 17, and so each product of as many numbers in a row.
TWOS = (0, 0, 1, 1, 3, 3, 4, 4, 7, 7, 8, 8, 10, 10, 11, 11, 15, 15)


def check_inputs(inputs):
    """Raise InvalidValues if the number of inputs is not an integer from 0 to 2."""
    if not is_integer(inputs) or not 0 <= inputs <= MOST_INPUTS:
        raise InvalidValues("the number of inputs must be an integer from 0 to 2")


def check_formula(formula, inputs):
    """Return the degrees of the formula; raise InvalidFormula if it is not one of so many inputs."""
    degrees = _degrees(formula, inputs, DEEPEST)
    if degrees is None:
        raise InvalidFormula("a formula must be made of so many inputs, and at most 8 deep")
    return degrees


def _degrees(value, inputs, deep):
    """Return the pair of the greatest powers, but 17 for greater ones, that the inputs may have in the formula.

    Return None if the value is not a formula of so many inputs, nested at most so deep.
    """
    if deep == 0 or not isinstance(value, tuple) or len(value) not in (2, 3):
        return None
    kind = value[0]
    if len(value) == 2:
        return _leaf_degrees(kind, value[1], inputs)
    if kind not in ("add", "sub", "mul"):
        return None
    ones = _degrees(value[1], inputs, deep - 1)
    others = None if ones is None else _degrees(value[2], inputs, deep - 1)
    if others is None:
        return None
    if kind == "mul":
        return (min(ones[0] + others[0], HIGHEST), min(ones[1] + others[1], HIGHEST))
    return _greater(ones, others)


def _leaf_degrees(kind, number, inputs):
    """Return the same for a formula without others in it, of the kind and with the number."""
    if kind == "in" and is_integer(number) and 0 <= number < inputs:
        return (1, 0) if number == 0 else (0, 1)
    return (0, 0) if kind == "num" and is_word(number) else None


def _greater(ones, others):
    """Return the pair of the greater degrees."""
    return (max(ones[0], others[0]), max(ones[1], others[1]))


def _widths(degrees):
    """Return the list, by the first inputs, of how many second inputs there are at the points that tell a function.

    A point is left out if its falling products are always multiples of 65536, or of a greater degree:
    the values there follow from those at the points that are not greater in either input.
    """
    first, second = degrees
    powers = [TWOS[at] for at in range(second + 1)]
    return [len([power for power in powers if power + TWOS[at] < BITS]) for at in range(first + 1)]


def _columns(widths):
    """Return the pair of the lists of the first and the second inputs at the points, in ascending sequence."""
    return (
        [at for at, width in enumerate(widths) for _ in range(width)],
        [at for width in widths for at in range(width)])


def _values_at(formula, columns, many):
    """Return the list of the values of the formula at so many points, whose inputs the columns tell."""
    kind = formula[0]
    if kind == "in":
        return columns[formula[1]]
    if kind == "num":
        return [formula[1]] * many
    ones = _values_at(formula[1], columns, many)
    others = _values_at(formula[2], columns, many)
    if kind == "add":
        return [(one + other) % SIZE for one, other in zip(ones, others)]
    if kind == "sub":
        return [(one - other) % SIZE for one, other in zip(ones, others)]
    return [one * other % SIZE for one, other in zip(ones, others)]


def _differences(rows):
    """Return the first one of the rows, of their differences, of the differences of those, and so on.

    No row is longer than the one before; a difference is as long as the shorter one of its rows.
    """
    found = list(rows)
    for step in range(1, len(found)):
        for at in range(len(found) - 1, step - 1, -1):
            found[at] = [later - earlier for later, earlier in zip(found[at], found[at - 1])]
    return found


def _turned(rows):
    """Return the columns of rows of which no one is longer than the one before."""
    return [[row[at] for row in rows if len(row) > at] for at in range(len(rows[0]))]


def _scales(many):
    """Return the list of the inverses of the odd parts of so many factorials, from that of 0 on."""
    found = []
    odd = 1
    for at in range(many):
        if at > 0:
            odd = odd * (at // (at & -at))
        found.append(inverse(odd % SIZE))
    return found


def _rows_of_differences(formula, degrees):
    """Return the rows, by the first inputs, of the differences at 0 along both inputs of a formula of such degrees."""
    widths = _widths(degrees)
    columns = _columns(widths)
    numbers = _values_at(formula, columns, len(columns[0]))
    rows = []
    start = 0
    for width in widths:
        rows.append(numbers[start:start + width])
        start += width
    return _turned(_differences(_turned(_differences(rows))))


def _normal(formula, inputs):
    """Return the normal form of the formula, if it is one of so many inputs."""
    check_inputs(inputs)
    rows = _rows_of_differences(formula, check_formula(formula, inputs))
    scales = _scales(max(len(rows), len(rows[0])))
    found = []
    for at, row in enumerate(rows):
        for other, difference in enumerate(row):
            # The difference is the number times the factorials.
            twos = TWOS[at] + TWOS[other]
            number = (difference >> twos) * scales[at] * scales[other] % (SIZE >> twos)
            if number != 0:
                found.append(((at, other)[:inputs], number))
    return tuple(found)


def _both_values(one, other, inputs):
    """Return the columns of the points that tell both formulas, and the lists of the values of both.

    Both must be formulas of so many inputs.
    """
    check_inputs(inputs)
    degrees = check_formula(one, inputs)
    columns = _columns(_widths(_greater(degrees, check_formula(other, inputs))))
    many = len(columns[0])
    return (columns, _values_at(one, columns, many), _values_at(other, columns, many))


def is_formula(inputs, value):
    """Return whether the value is a formula of so many inputs."""
    check_inputs(inputs)
    return _degrees(value, inputs, DEEPEST) is not None


def value(formula, values):
    """Return the value of the formula if the inputs have the values."""
    if not isinstance(values, tuple) or len(values) > MOST_INPUTS or not are_words(values, len(values)):
        raise InvalidValues("the values must be a tuple of at most 2 words")
    check_formula(formula, len(values))
    return _values_at(formula, [[word] for word in values], 1)[0]


def normal(formula, inputs):
    """Return the normal form of the function that the formula tells."""
    return _normal(formula, inputs)


def same_function(one, other, inputs):
    """Return whether both formulas have equal values for all words."""
    _, values, others = _both_values(one, other, inputs)
    return values == others


def parting(one, other, inputs):
    """Return the least tuple of words for which the formulas have unlike values, or None."""
    columns, values, others = _both_values(one, other, inputs)
    for at in range(len(values)):
        if values[at] != others[at]:
            return (columns[0][at], columns[1][at])[:inputs]
    return None


def degree(formula, inputs):
    """Return the greatest sum of a point in the normal form of the formula, 0 if it has none."""
    return max([sum(point) for point, _ in _normal(formula, inputs)], default=0)
