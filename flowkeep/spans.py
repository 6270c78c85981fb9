"""Spans of rows of words: all sums of products of the rows with words."""

from flowkeep.errors import InvalidRow
from flowkeep.words import SIZE, are_words, inverse, is_integer

WIDEST = 16
MOST_ROWS = 16


def check_row(row, width):
    """Raise InvalidRow if the row is not one of the width."""
    if not are_words(row, width):
        raise InvalidRow("a row must be a tuple of as many words as the width tells")


def check_width(width):
    """Raise InvalidRow if the width is not an integer from 1 to 16."""
    if not is_integer(width) or not 1 <= width <= WIDEST:
        raise InvalidRow("the width must be an integer from 1 to 16")


def check_rows(rows, width):
    """Raise InvalidRow if the rows, or the width, are none."""
    check_width(width)
    if not isinstance(rows, tuple) or len(rows) > MOST_ROWS:
        raise InvalidRow("rows must be a tuple of at most 16 rows")
    for row in rows:
        check_row(row, width)


def lead(row):
    """Return the place of the first number that is not 0, the width of the row if there is none."""
    for place, number in enumerate(row):
        if number != 0:
            return place
    return len(row)


def scaled(row, factor):
    """Return the row times the factor."""
    return tuple([number * factor % SIZE for number in row])


def lessened(row, factor, other):
    """Return the row minus the other one times the factor."""
    return tuple([(mine - factor * its) % SIZE for mine, its in zip(row, other)])


def product_sum(row, other):
    """Return the word to which the products of the numbers, place by place, add up."""
    return sum([mine * its for mine, its in zip(row, other)]) % SIZE


def with_power(row, place):
    """Return a row with the same span whose number at the place, its first one, is a power of 2."""
    power = row[place] & -row[place]
    return scaled(row, inverse(row[place] // power))


def take_in(found, row):
    """Add a row to the span of rows told as `closed` tells them; return whether it was not in the span."""
    grown = False
    waiting = [row]
    while waiting:
        row = waiting.pop()
        place = lead(row)
        if place == len(row):
            continue
        row = with_power(row, place)
        if place in found and row[place] >= found[place][place]:
            waiting.append(lessened(row, row[place] // found[place][place], found[place]))
            continue
        grown = True
        if place in found:
            waiting.append(found[place])
        found[place] = row
        # What makes the first number go round to 0 may leave something behind it.
        waiting.append(scaled(row, SIZE // row[place]))
    return grown


def closed(rows):
    """Return a dict of rows with the same span by the places of their first numbers, all powers of 2.

    Each row of the span whose numbers ahead of a place are all 0 is in the span of those of these
    rows for which this is so, too. The rows may be of any width.
    """
    found = {}
    for row in rows:
        take_in(found, row)
    return found


def rest(row, formed):
    """Return what is left of the row if each row of a form is taken away as often as it goes in.

    It is all 0 if and only if the row is in the span of the form.
    """
    for one in formed:
        place = lead(one)
        row = lessened(row, row[place] // one[place], one)
    return row


def form_of(rows):
    """Return the form of the span of rows of any width, a tuple."""
    found = closed(rows)
    formed = []
    for place in sorted(list(found), reverse=True):
        formed = [rest(found[place], formed)] + formed
    return tuple(formed)


def unit(place, width):
    """Return the row with 1 at the place, and else 0."""
    return tuple([1 if at == place else 0 for at in range(width)])


def tails(rows, width):
    """Return what stands behind the width in the rows whose numbers ahead of it are all 0."""
    return tuple([row[width:] for row in rows if lead(row) >= width])


def equations_of(rows, width):
    """Return the form of the span of all equations that hold for rows of any width."""
    columns = [tuple([row[place] for row in rows]) + unit(place, width) for place in range(width)]
    return tails(form_of(columns), len(rows))


def form(rows, width):
    """Return the form of the span of the rows."""
    check_rows(rows, width)
    return form_of(rows)


def contains(rows, width, row):
    """Return whether the row is in the span of the rows."""
    check_rows(rows, width)
    check_row(row, width)
    return lead(rest(row, form_of(rows))) == width


def same_span(rows, others, width):
    """Return whether the spans of the rows and of the others are the same."""
    check_rows(rows, width)
    check_rows(others, width)
    return form_of(rows) == form_of(others)


def count_rows(rows, width):
    """Return how many rows the span of the rows has."""
    check_rows(rows, width)
    count = 1
    for row in form_of(rows):
        count = count * (SIZE // row[lead(row)])
    return count


def equations(rows, width):
    """Return the form of the span of all equations that hold for all of the rows."""
    check_rows(rows, width)
    return equations_of(rows, width)


def holds(rows, width, equation):
    """Return whether the equation holds for all of the rows."""
    check_rows(rows, width)
    check_row(equation, width)
    return all([product_sum(row, equation) == 0 for row in rows])


def multipliers(rows, width, row):
    """Return the least tuple of words by which the sum of the rows is the row, or None."""
    check_rows(rows, width)
    check_row(row, width)
    many = len(rows)
    # Behind the width stands how often each of the rows was taken.
    joined = form_of([one + unit(at, many) for at, one in enumerate(rows)])
    left = rest(scaled(row, SIZE - 1) + (0,) * many, joined)
    if lead(left[:width]) < width:
        return None
    return left[width:]
