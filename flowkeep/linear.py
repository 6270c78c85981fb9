"""Linear equations between the names and the cells of a graph, on all ways."""

from flowkeep.errors import InvalidName, InvalidValues, InvalidWay, TooMany
from flowkeep.flow import goals_of, is_way_in
from flowkeep.graphs import CELLS, check_block, check_graph, chooses, names_of
from flowkeep.spans import check_row, equations_of, form_of, product_sum, take_in, unit
from flowkeep.words import are_words, reckoned

MOST_NAMES = 11
UNKNOWN = ("mul", "div", "less", "ask")


class Walker:
    """Performs the blocks of a graph on states, whatever their ends say."""

    def __init__(self, graph):
        self.inputs, self.blocks = graph
        self.edges = goals_of(self.blocks)
        found = names_of(graph)
        # Names are strings and cells integers, so that one dict tells the places of both.
        self.places = {part: at for at, part in enumerate(list(found) + list(range(CELLS)), start=1)}
        self.width = 1 + len(found) + CELLS
        self.needs = [len([step for step in steps if step[0] in UNKNOWN]) for steps, _ in self.blocks]
        self.moves = [[step for step in steps if not chooses(step)] for steps, _ in self.blocks]
        self.choices = [self.choices_of(block) for block in range(len(self.blocks))]

    def choices_of(self, block):
        """Return the dict, by the comers of a block, of the lists of pairs of a place and the one chosen for it."""
        found = {}
        for step in self.blocks[block][0]:
            if chooses(step):
                for comer, name in step[2]:
                    found.setdefault(comer, []).append((self.places[step[1]], self.places[name]))
        return found

    def begun(self, values):
        """Return the state with which a walk begins, if the inputs have the values."""
        state = [1] + [0] * (self.width - 1)
        for name, word in zip(self.inputs, values):
            state[self.places[name]] = word
        return state

    def perform(self, block, state, values):
        """Perform the steps of the block but choices on the state, with the unknown values."""
        at = 0
        for step in self.moves[block]:
            kind = step[0]
            if kind in UNKNOWN:
                state[self.places[step[1]]] = values[at]
                at += 1
            elif kind != "show":
                state[self.places[step[1]]] = self.result(step, state)

    def result(self, step, state):
        """Return what a step other than an unknown one puts at the place of its first part."""
        kind = step[0]
        if kind == "set":
            return step[2]
        one = state[self.places[step[2]]]
        if kind in ("copy", "read", "write"):
            return one
        return reckoned(kind, one, step[3] if kind == "times" else state[self.places[step[3]]])

    def enter(self, block, comer, state):
        """Perform the choices of the block on the state, if it is come to from the comer."""
        pairs = self.choices[block].get(comer, [])
        chosen = [state[source] for _, source in pairs]
        for pair, word in zip(pairs, chosen):
            state[pair[0]] = word

    def many_values(self, way):
        """Return how many unknown values a walk along the way needs."""
        return len(self.inputs) + sum([self.needs[block] for block in way[:-1]])

    def walked(self, way, values):
        """Return the list of the state at the end of the way, behind the choices of its last block."""
        at = len(self.inputs)
        state = self.begun(values[:at])
        for block, goal in zip(way, way[1:]):
            further = at + self.needs[block]
            self.perform(block, state, values[at:further])
            self.enter(goal, block, state)
            at = further
        return state


class Explorer:
    """Walks until the states found at each block have the span of all states there.

    Since each state found is one of a walk and is not in the span of those found before it, an
    equation that they all fulfil holds for all states, and one that some of them breaks is broken
    by a walk. No way is longer than the number of these states, at most 40 times 256.
    """

    def __init__(self, graph):
        self.walker = Walker(graph)
        many = len(self.walker.blocks)
        self.spans = [{} for _ in range(many)]
        self.started = [False] * many
        # Of each walk: its last block, its state, the number of the walk that it goes on from, and which
        # of the unknown values that it adds is 1, the others being 0; None, which is none of them, if all are 0.
        self.walks = []
        need = len(self.walker.inputs)
        for one in [None] + list(range(need)):
            self.keep(0, self.walker.begun(unit(one, need)), None, one)
        at = 0
        while at < len(self.walks):
            self.go_on(at)
            at += 1

    def keep(self, block, state, earlier, one):
        """Keep the walk if its state is not in the span of those found at the block."""
        if take_in(self.spans[block], tuple(state)):
            self.walks.append((block, tuple(state), earlier, one))

    def go_on(self, at):
        """Go on from a walk to all goals of its block."""
        block = self.walks[at][0]
        need = self.walker.needs[block]
        # What an unknown value adds is the same for all walks, so that it is enough to try it for one.
        ones = [None] if self.started[block] else [None] + list(range(need))
        self.started[block] = True
        for one in ones:
            state = list(self.walks[at][1])
            self.walker.perform(block, state, unit(one, need))
            for goal in self.walker.edges[block]:
                entered = list(state)
                self.walker.enter(goal, block, entered)
                self.keep(goal, entered, at, one)

    def states(self, block):
        """Return the list of the states that were found at the block."""
        return [found[1] for found in self.walks if found[0] == block]

    def form(self, block):
        """Return the form of the span of all states at the block."""
        return form_of(list(self.spans[block].values()))

    def told(self, at):
        """Return the way of the walk, and the tuple of its unknown values."""
        ones = []
        way = []
        while at is not None:
            block, _, at, one = self.walks[at]
            way.append(block)
            ones.append(one)
        way.reverse()
        ones.reverse()
        values = list(unit(ones[0], len(self.walker.inputs)))
        for block, one in zip(way, ones[1:]):
            values.extend(unit(one, self.walker.needs[block]))
        return (tuple(way), tuple(values))


def _explored(graph, block):
    """Return what an explorer has found in the graph, if it, the block and the number of names are right."""
    check_graph(graph)
    check_block(graph, block)
    if len(names_of(graph)) > MOST_NAMES:
        raise TooMany("the graph must have at most 11 names")
    return Explorer(graph)


def states_at(graph, block):
    """Return the form of the span of all states at the block."""
    return _explored(graph, block).form(block)


def equations_at(graph, block):
    """Return the form of the span of all equations that hold for all states at the block."""
    explorer = _explored(graph, block)
    return equations_of(explorer.form(block), explorer.walker.width)


def breaking(graph, block, equation):
    """Return a way to the block and unknown values for which the equation does not hold, or None."""
    explorer = _explored(graph, block)
    check_row(equation, explorer.walker.width)
    for at, found in enumerate(explorer.walks):
        if found[0] == block and product_sum(found[1], equation) != 0:
            return explorer.told(at)
    return None


def _check_way(graph, way):
    """Raise InvalidGraph if the graph is none, and InvalidWay if the way is not one in it."""
    check_graph(graph)
    if not is_way_in(graph[1], way):
        raise InvalidWay("the value is not a way in the graph")


def count_values(graph, way):
    """Return how many unknown values a free walk along the way needs."""
    _check_way(graph, way)
    return Walker(graph).many_values(way)


def walk(graph, way, values):
    """Return the state at the end of the free walk along the way with these unknown values."""
    _check_way(graph, way)
    walker = Walker(graph)
    if not are_words(values, walker.many_values(way)):
        raise InvalidValues("the values must be a tuple of as many words as the way needs")
    return tuple(walker.walked(way, values))


def known_at(graph, block):
    """Return the ascending tuple of the pairs of a name and the one word that it has in all states at the block."""
    explorer = _explored(graph, block)
    states = explorer.states(block)
    if not states:
        return ()
    first = states[0]
    return tuple([
        (name, first[at]) for at, name in enumerate(names_of(graph), start=1)
        if all([state[at] == first[at] for state in states])])


def equal_at(graph, block, name):
    """Return the ascending tuple of the names that have the same value as the name in all states at the block."""
    explorer = _explored(graph, block)
    found = names_of(graph)
    if name not in found:
        raise InvalidName("the value is not a name that stands in the graph")
    states = explorer.states(block)
    places = explorer.walker.places
    own = places[name]
    return tuple([other for other in found if all([state[places[other]] == state[own] for state in states])])
