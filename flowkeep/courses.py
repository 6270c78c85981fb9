"""Two graphs that go side by side, as a paper tells, and what is known of both at each new block."""

from flowkeep.desks import Arrival, Catalog, Desk, Hand, choose
from flowkeep.flow import come_to, order_of
from flowkeep.graphs import CELLS, chooses, names_of
from flowkeep.sums import ONE, summed, take_in, transposed, unknown_sum

# Over so many blocks without steps but choices the old graph may go to the start of a new block.
MOST_PASSED = 7


class Meeting:
    """What is known where a new block begins, by all edges to it that have been gone.

    `rows` spans the states, as `take_in` tells a span. `expressions` has the places of those whose values
    stand in the states, and `divisors` the forms that are known not to be 0.
    """

    def __init__(self, catalog):
        self.catalog = catalog
        self.arrivals = {}
        self.rows = {}
        self.expressions = {}
        self.divisors = {}

    def copied(self):
        """Return a meeting at which the same is known."""
        found = Meeting(self.catalog)
        found.arrivals = {edge: arrival for edge, arrival in self.arrivals.items()}
        found.rows = dict(self.rows)
        found.expressions = dict(self.expressions)
        found.divisors = {form: True for form in self.divisors}
        return found

    def take(self, edge, arrival):
        """Take in what is known behind the edge; return whether something else is known now."""
        expressions = list(self.expressions)
        divisors = list(self.divisors)
        if edge not in self.arrivals:
            divisors.extend([form for form in arrival.listed_divisors() if form not in self.divisors])
            expressions.extend([place for place in arrival.listed_expressions() if place not in self.expressions])
        self.arrivals[edge] = arrival
        changed = self.keep_divisors(divisors)
        if self.keep_expressions(expressions):
            self.rows = {}
            for one in self.arrivals.values():
                self.widen(one)
            return True
        return self.widen(arrival) or changed

    def keep_divisors(self, forms):
        """Keep the forms that are known not to be 0 behind all edges; return whether they are others than before."""
        arrivals = list(self.arrivals.values())
        kept = {form: True for form in forms if all([arrival.is_passed(form) for arrival in arrivals])}
        changed = kept != self.divisors
        self.divisors = kept
        return changed

    def keep_expressions(self, places):
        """Keep the expressions that are told behind all edges; return whether they are others than before."""
        arrivals = list(self.arrivals.values())
        kept = {}
        for place in sorted(places):
            # Expressions in the forms of others have lesser places.
            if all([inner in kept for inner in self.catalog.inner_places(place)]):
                if all([arrival.part(place) is not None for arrival in arrivals]):
                    kept[place] = True
        changed = kept != self.expressions
        self.expressions = kept
        return changed

    def widen(self, arrival):
        """Take the states behind an edge into the span; return whether they were not in it."""
        grown = [take_in(self.rows, row) for row in arrival.spanning(list(self.expressions))]
        return any(grown)

    def opened_desk(self):
        """Return the desk at which the block begins."""
        rows = [self.rows[place] for place in sorted(list(self.rows))]
        columns = transposed(dict(enumerate(rows)))
        desk = Desk({place: value for place, value in columns.items() if place < self.catalog.first}, len(rows))
        for form in self.divisors:
            desk.passed[_value_of(form, columns)] = True
        for place in self.expressions:
            kind, one, other = self.catalog.expression_at(place)
            values = (_value_of(one, columns), _value_of(other, columns))
            desk.made.append((kind, one, other, values[0], values[1]))
            if desk.told_result(kind, values[0], values[1]) is None:
                desk.keep(kind, values[0], values[1], columns.get(place, ()))
            if kind == "div":
                desk.passed[values[1]] = True
        return desk


def _value_of(form, columns):
    """Return the value of the form, if a dict tells those of places."""
    if len(form) == 1 and form[0][1] == 1:
        return columns.get(form[0][0], ())
    return summed([(columns.get(place, ()), factor) for place, factor in form])


class Pair:
    """An old and a new graph, and the places that their names and cells have in states."""

    def __init__(self, old, new):
        self.old_inputs, self.old = old
        self.new_inputs, self.new = new
        old_parts = list(names_of(old)) + list(range(CELLS))
        new_parts = list(names_of(new)) + list(range(CELLS))
        # Names are strings and cells integers, so that one dict tells the places of both. The first place is that of 1.
        self.old_places = {part: at for at, part in enumerate(old_parts, start=1)}
        self.new_places = {part: at for at, part in enumerate(new_parts, start=1 + len(old_parts))}
        self.catalog = Catalog(1 + len(old_parts) + len(new_parts))
        self.rank = {block: at for at, block in enumerate(order_of(self.new))}

    def first_arrival(self):
        """Return what is known where new block 0 begins."""
        values = {0: ONE}
        for at in range(len(self.old_inputs)):
            values[self.old_places[self.old_inputs[at]]] = unknown_sum(at + 1)
            values[self.new_places[self.new_inputs[at]]] = unknown_sum(at + 1)
        return Arrival(Desk({}, 1 + len(self.old_inputs)), values, self.catalog)

    def row_over(self, block, start):
        """Return the list of the old blocks that goes lead over from the block to the start, both told; or None."""
        row = [block]
        while row[-1] != start:
            steps, end = self.old[row[-1]]
            if len(row) > MOST_PASSED or end[0] != "go" or not all([chooses(step) for step in steps]):
                return None
            row.append(end[1])
        return row


class Course:
    """A pair of graphs on their way side by side.

    `paper` is the dict, by new blocks, of the pairs of start and length of what the old graph does then, and
    `waiting` that of True by the new blocks at which something else is known than when they were gone through.
    """

    def __init__(self, pair):
        self.pair = pair
        self.paper = {}
        self.meetings = {}
        self.waiting = {}
        # For new blocks of length 0, the dicts of True by the goals that have been gone on to.
        self.idle = {}

    def copied(self):
        """Return a course that has come as far."""
        found = Course(self.pair)
        found.paper = dict(self.paper)
        found.meetings = {block: meeting.copied() for block, meeting in self.meetings.items()}
        found.waiting = dict(self.waiting)
        found.idle = {block: dict(goals) for block, goals in self.idle.items()}
        return found

    def begin(self):
        """Begin in block 0 of both graphs."""
        self.arrive(0, None, self.pair.first_arrival())

    def arrive(self, block, edge, arrival):
        """Take in what is known where the new block is come to by the edge."""
        if block not in self.meetings:
            self.meetings[block] = Meeting(self.pair.catalog)
        if self.meetings[block].take(edge, arrival):
            self.waiting[block] = True

    def next_block(self):
        """Return the first one of the new blocks that are to be gone through."""
        return min(list(self.waiting), key=lambda block: self.pair.rank[block])

    def passage(self, block):
        """Return what both graphs do in the new block."""
        return Passage(self.pair, self.meetings[block].opened_desk(), block, self.paper[block])

    def go_on(self, passage):
        """Go on from a new block to its goals; return whether the starts of all of them can be come to."""
        block = passage.block
        self.waiting.pop(block, None)
        for goal, old_goal in passage.crossings:
            values = passage.values_behind(goal, old_goal, self.paper[goal][0])
            if values is None or (passage.length == 0 and self.closes_ring(block, goal)):
                return False
            self.arrive(goal, (block, old_goal), Arrival(passage.desk, values, self.pair.catalog))
        return True

    def closes_ring(self, block, goal):
        """Note that a block of length 0 goes on to the goal; return whether there is a ring of such blocks then."""
        self.idle.setdefault(block, {})[goal] = True
        edges = [list(self.idle.get(one, {})) for one in range(len(self.pair.new))]
        return block in come_to((goal,), edges)


class Passage:
    """What both graphs do in one new block.

    If `fits` is True, they have shown and asked the same, may have stopped alike, and can end alike;
    `crossings` are the pairs of a new and an old goal then, the latter None if the old graph does nothing.
    """

    def __init__(self, pair, desk, block, told):
        self.pair = pair
        self.desk = desk
        self.block = block
        self.start, self.length = told
        self.last = self.start
        self.crossings = []
        old = Hand(desk, pair.old_places)
        new = Hand(desk, pair.new_places)
        row_fits = self.perform_row(old)
        new.perform(pair.new[block][0])
        self.fits = row_fits and old.events == new.events
        if self.fits and not old.stopped:
            self.fits = self.perform_ends(old, new)
        for divisor in list(old.passed) + list(new.passed):
            desk.passed[divisor] = True

    def perform_row(self, old):
        """Perform the old blocks; return whether they can only be gone through so."""
        for at in range(self.length):
            if at > 0:
                goals = [] if self.old_end()[0] == "give" else old.goals(self.old_end())
                if len(set(goals)) != 1:
                    return False
                choose(self.desk.held, self.pair.old[goals[0]][0], self.last, self.pair.old_places)
                self.last = goals[0]
            old.perform(self.pair.old[self.last][0])
            if old.stopped:
                return True
        return True

    def old_end(self):
        """Return the end of the last old block."""
        return self.pair.old[self.last][1]

    def perform_ends(self, old, new):
        """Perform both ends; return whether they are alike."""
        new_end = self.pair.new[self.block][1]
        gives = new_end[0] == "give"
        if self.length == 0:
            self.crossings = [] if gives else [(goal, None) for goal in new.goals(new_end)]
            return not gives
        old_end = self.old_end()
        if gives or old_end[0] == "give":
            return new_end[0] == old_end[0] and new.read(new_end[1]) == old.read(old_end[1])
        goals, others = new.goals(new_end), old.goals(old_end)
        if len(goals) == len(others) == 2 and new.read(new_end[1]) == old.read(old_end[1]):
            self.crossings = [(goals[0], others[0]), (goals[1], others[1])]
        else:
            self.crossings = [(goal, other) for goal in goals for other in others]
        return True

    def values_behind(self, goal, old_goal, start):
        """Return the values where the new goal begins, the old graph standing at the start; or None if it can't."""
        values = dict(self.desk.held)
        choose(values, self.pair.new[goal][0], self.block, self.pair.new_places)
        if old_goal is None:
            return values if start == self.start else None
        row = self.pair.row_over(old_goal, start)
        if row is None:
            return None
        comer = self.last
        for block in row:
            choose(values, self.pair.old[block][0], comer, self.pair.old_places)
            comer = block
        return values
