"""Blocks of two graphs performed side by side, with sums of unknown words as values."""

from flowkeep.graphs import chooses, given
from flowkeep.sums import may_be_zero, rest_of, summed, take_in, transposed, unknown_sum, word_of, word_sum
from flowkeep.words import reckoned

RECKONED = ("mul", "div", "less")
# Of several forms with one value, so many are tried.
MOST_HOLDERS = 3


class Desk:
    """What both graphs know while they perform one new block and the old ones that go with it.

    `held` tells the sums by the places of names and cells, and `results` those that products, quotients
    and comparisons of two sums have. A value is a sum over the rows that span the states at the new
    block, of which the one at place 0 has the factor 1, and over unknown words.
    """

    def __init__(self, values, many):
        self.held = values
        self.many = many
        self.results = {}
        self.answers = []
        # The divisors that are known not to have been 0.
        self.passed = {}
        # Of all results: the kind, the forms that have told the two sums, and the sums.
        self.made = []

    def value(self, place):
        """Return the value that the name or the cell of the place has now."""
        return self.held.get(place, ())

    def unknown(self):
        """Return a new unknown word."""
        self.many += 1
        return unknown_sum(self.many - 1)

    def answer(self, at):
        """Return the answer of the number within the block."""
        while len(self.answers) <= at:
            self.answers.append(self.unknown())
        return self.answers[at]

    def told_result(self, kind, one, other):
        """Return the result of two sums, or None if nothing tells it."""
        words = (word_of(one), word_of(other))
        if kind == "mul":
            if words[0] is not None:
                return summed([(other, words[0])])
            if words[1] is not None:
                return summed([(one, words[1])])
            return self.results.get((kind, min(one, other), max(one, other)))
        if None in words:
            return self.results.get((kind, one, other))
        return None if kind == "div" and words[1] == 0 else word_sum(reckoned(kind, words[0], words[1]))

    def keep(self, kind, one, other, result):
        """Keep the result of two sums."""
        if kind == "mul":
            one, other = min(one, other), max(one, other)
        self.results[(kind, one, other)] = result

    def result(self, kind, one, other):
        """Return the result of two sums, an unknown word if nothing tells it."""
        found = self.told_result(kind, one, other)
        if found is None:
            found = self.unknown()
            self.keep(kind, one, other, found)
        return found


class Hand:
    """Performs the steps of one of the graphs at a desk, and notes what it shows, asks, and may stop at."""

    def __init__(self, desk, places):
        self.desk = desk
        self.places = places
        self.events = []
        self.asked = 0
        self.passed = {}
        self.stopped = False

    def perform(self, steps):
        """Perform the steps other than choices, up to a quotient whose divisor is known to be 0."""
        for step in steps:
            if not chooses(step) and not self.stopped:
                self.perform_step(step)

    def perform_step(self, step):
        """Perform one step."""
        kind = step[0]
        if kind == "show":
            self.events.append((kind, self.read(step[1])))
        elif kind == "write":
            self.desk.held[self.places[step[1]]] = self.read(step[2])
        elif kind == "div" and self.stops(self.read(step[3])):
            self.stopped = True
        else:
            self.desk.held[self.places[given(step)]] = self.result(step)

    def read(self, name):
        """Return the value of the name, or of the cell of the number."""
        return self.desk.value(self.places[name])

    def stops(self, divisor):
        """Note that a quotient has the divisor; return whether it is known to be 0."""
        if may_be_zero(divisor) and divisor not in self.desk.passed and divisor not in self.passed:
            self.events.append(("stop", divisor))
        self.passed[divisor] = True
        return divisor == ()

    def result(self, step):
        """Return the value that the step gives its name."""
        kind = step[0]
        if kind == "set":
            return word_sum(step[2])
        if kind == "ask":
            self.events.append((kind, ()))
            self.asked += 1
            return self.desk.answer(self.asked - 1)
        one = self.read(step[2])
        if kind in ("copy", "read"):
            return one
        if kind == "times":
            return summed([(one, step[3])])
        other = self.read(step[3])
        if kind not in RECKONED:
            return summed([(one, 1), (other, 1 if kind == "add" else -1)])
        forms = (unknown_sum(self.places[step[2]]), unknown_sum(self.places[step[3]]))
        self.desk.made.append((kind, forms[0], forms[1], one, other))
        return self.desk.result(kind, one, other)

    def goals(self, end):
        """Return the list of the goals to which an end other than a give can go on."""
        if end[0] == "go":
            return [end[1]]
        value = self.read(end[1])
        if not may_be_zero(value):
            return [end[2]]
        return [end[3]] if value == () else [end[2], end[3]]


def choose(values, steps, comer, places):
    """Perform the choices among the steps on the values, if the block is come to from the comer."""
    choices = [step for step in steps if chooses(step)]
    chosen = [values.get(places[dict(step[2])[comer]], ()) for step in choices]
    for step, value in zip(choices, chosen):
        values[places[step[1]]] = value


class Catalog:
    """Numbers expressions: products, quotients and comparisons of forms, as places behind those of names and cells.

    A form is a sum over places. An expression is a tuple of a kind and two forms.
    """

    def __init__(self, first):
        self.first = first
        self.listed = []
        self.places = {}

    def place_of(self, expression):
        """Return the place of the expression."""
        if expression not in self.places:
            self.places[expression] = self.first + len(self.listed)
            self.listed.append(expression)
        return self.places[expression]

    def expression_at(self, place):
        """Return the expression of the place, or None for a name, a cell, or 1."""
        return self.listed[place - self.first] if place >= self.first else None

    def inner_places(self, place):
        """Return the list of the places of expressions in the forms of the expression."""
        forms = self.listed[place - self.first][1:]
        return [inner for form in forms for inner, _ in form if inner >= self.first]


class Arrival:
    """What is known where a new block is come to from another one: the values of names, cells and expressions."""

    def __init__(self, desk, values, catalog):
        self.desk = desk
        self.held = values
        self.catalog = catalog
        # The values of expressions by their places, and the lists of forms by their values.
        self.found = {}
        self.holding = {}
        for place in sorted(list(values)):
            self.holding.setdefault(values[place], []).append(unknown_sum(place))
        self.basis = None

    def part(self, place):
        """Return the value of the place, or None if it is that of an expression that nothing tells."""
        expression = self.catalog.expression_at(place)
        if expression is None:
            return self.held.get(place, ())
        if place not in self.found:
            one, other = self.value(expression[1]), self.value(expression[2])
            told = one is not None and other is not None
            self.found[place] = self.desk.told_result(expression[0], one, other) if told else None
        return self.found[place]

    def value(self, form):
        """Return the value of the form, or None if nothing tells it."""
        if len(form) == 1 and form[0][1] == 1:
            return self.part(form[0][0])
        parts = [(self.part(place), factor) for place, factor in form]
        return None if any([one is None for one, _ in parts]) else summed(parts)

    def listed_expressions(self):
        """Return the dict of True by the places of expressions that tell what has been made."""
        places = {}
        for kind, one, other, its_one, its_other in self.desk.made:
            for first in self.holders(one, its_one):
                for second in self.holders(other, its_other):
                    self.list_expression(kind, first, second, places)
        return places

    def list_expression(self, kind, one, other, places):
        """List the place of the expression, unless the expression is told wherever its forms are."""
        words = [word_of(one), word_of(other)]
        if None not in words or (kind == "mul" and words != [None, None]):
            return
        if kind == "mul":
            one, other = min(one, other), max(one, other)
        place = self.catalog.place_of((kind, one, other))
        if place not in places:
            places[place] = True
            self.holding.setdefault(self.part(place), []).append(unknown_sum(place))

    def is_passed(self, form):
        """Return whether the form is known not to be 0 here."""
        value = self.value(form)
        return value is not None and (value in self.desk.passed or not may_be_zero(value))

    def listed_divisors(self):
        """Return the list of the forms of divisors that are known not to have been 0."""
        values = [value for value in self.desk.passed if word_of(value) is None]
        return [form for value in values for form in self.holders(None, value)]

    def holders(self, form, value):
        """Return the list of some forms that have the value here: the form itself, if it still has it."""
        if form is not None and self.value(form) == value:
            return [form]
        if word_of(value) is not None:
            return [word_sum(word_of(value))]
        if value in self.holding:
            return self.holding[value][:MOST_HOLDERS]
        found = self.solved(value)
        return [] if found is None else [found]

    def solved(self, value):
        """Return a form over names and cells that has the value, or None."""
        many = self.desk.many
        if self.basis is None:
            self.basis = {}
            for place in sorted(list(self.held)):
                take_in(self.basis, self.held[place] + unknown_sum(many + place))
        left = rest_of(self.basis, value)
        if left and left[0][0] < many:
            return None
        return summed([(((place - many, number),), -1) for place, number in left])

    def spanning(self, places):
        """Return the list of the sums that span the states here, with the expressions of the places in them."""
        columns = {place: value for place, value in self.held.items() if value}
        for place in places:
            columns[place] = self.part(place)
        found = transposed(columns)
        return [found[at] for at in sorted(list(found))]
