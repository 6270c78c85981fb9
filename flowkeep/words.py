"""Words of 16 bits: integers from 0 to 65535 that go round."""

from flowkeep.errors import InvalidNumber, NotOdd

SIZE = 65536
BITS = 16
FARTHEST = 1000000000000


def is_integer(value):
    """Return whether the value is an integer; True and False are none."""
    return isinstance(value, int) and not isinstance(value, bool)


def is_word(value):
    """Return whether the value is an integer from 0 to 65535."""
    return is_integer(value) and 0 <= value < SIZE


def check_word(number):
    """Raise InvalidNumber if the number is not a word."""
    if not is_word(number):
        raise InvalidNumber("a word is an integer from 0 to 65535")


def wrapped(number):
    """Return the word to which the integer goes round."""
    if not is_integer(number) or not -FARTHEST <= number <= FARTHEST:
        raise InvalidNumber("the number must be an integer from -10 ** 12 to 10 ** 12")
    return number % SIZE


def twos(number):
    """Return how often 2 divides the word, 16 for 0."""
    check_word(number)
    if number == 0:
        return BITS
    count = 0
    while number % 2 == 0:
        number = number // 2
        count += 1
    return count


def inverse(number):
    """Return the word whose product with the odd word is 1."""
    check_word(number)
    if number % 2 == 0:
        raise NotOdd("an even word has no inverse")
    # An odd word is its own inverse in the last 3 bits; each round doubles the bits that are right.
    found = number
    for _ in range(3):
        found = found * (2 - number * found) % SIZE
    return found


def are_words(value, many):
    """Return whether the value is a tuple of so many words."""
    return isinstance(value, tuple) and len(value) == many and all([is_word(number) for number in value])


def reckoned(kind, one, other):
    """Return the word that a step of the kind makes of two words; no quotient by 0."""
    if kind == "add":
        return (one + other) % SIZE
    if kind == "sub":
        return (one - other) % SIZE
    if kind in ("mul", "times"):
        return one * other % SIZE
    if kind == "div":
        return one // other
    return 1 if one < other else 0
