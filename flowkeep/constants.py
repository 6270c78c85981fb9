"""Constants in graphs in single form, as far as the ways that can be gone tell them."""

from flowkeep.graphs import chooses, given, reads
from flowkeep.shaping import renumbered
from flowkeep.single import check_single
from flowkeep.words import reckoned

# Stands in the place of a word for several values; it is none.
SEVERAL = 65536


class Tracer:
    """Goes along the ways of a graph in single form that can be gone, until nothing changes.

    `known` tells the word, or SEVERAL, by the names that have a value, and `gone` is a dict of True by
    the pairs of a block and a goal to which it can be gone on.
    """

    def __init__(self, graph):
        inputs, self.blocks = graph
        self.known = {name: SEVERAL for name in inputs}
        self.gone = {}
        self.entered = {0: True}
        self.changed = True
        while self.changed:
            self.changed = False
            for block in sorted(list(self.entered)):
                self.go_through(block)

    def go_through(self, block):
        """Give the names of the block, and go on to its goals, as far as is known by now."""
        steps, end = self.blocks[block]
        for step in steps:
            if step[0] == "div" and self.known.get(step[3], 0) == 0:
                return
            if chooses(step):
                self.choose(step, block)
            elif given(step) is not None:
                self.give(step[1], self.result(step))
        for goal in self.goals(end):
            if (block, goal) not in self.gone:
                self.gone[(block, goal)] = True
                self.entered[goal] = True
                self.changed = True

    def choose(self, step, block):
        """Give the name of a choice of the block what the names of the edges that are gone have."""
        for comer, name in step[2]:
            if (comer, block) in self.gone:
                self.give(step[1], self.known.get(name))

    def give(self, name, value):
        """Give the name a word, or SEVERAL; None is no value."""
        if value is None or self.known.get(name) in (value, SEVERAL):
            return
        self.known[name] = SEVERAL if name in self.known else value
        self.changed = True

    def result(self, step):
        """Return the word that a step other than a choice gives its name, or SEVERAL, or None."""
        kind = step[0]
        if kind == "set":
            return step[2]
        if kind in ("ask", "read"):
            return SEVERAL
        values = [self.known.get(name) for name in reads(step)]
        if SEVERAL in values:
            return SEVERAL
        if None in values:
            return None
        if kind == "copy":
            return values[0]
        return reckoned(kind, values[0], step[3] if kind == "times" else values[1])

    def goals(self, end):
        """Return the tuple of the blocks to which the end can go on."""
        if end[0] != "pick":
            return end[1:] if end[0] == "go" else ()
        value = self.known.get(end[1])
        if value is None:
            return ()
        if value == SEVERAL:
            return end[2:]
        return end[2:3] if value != 0 else end[3:]

    def word(self, name):
        """Return the single value of the name, or None."""
        value = self.known.get(name)
        return None if value == SEVERAL else value


def constants_of(graph):
    """Return the dict of the words by the names with a single value, for what is in single form."""
    tracer = Tracer(graph)
    return {name: value for name, value in tracer.known.items() if value != SEVERAL}


class Folder:
    """Folds the blocks of a graph in single form that a tracer has entered."""

    def __init__(self, graph):
        self.blocks = graph[1]
        self.tracer = Tracer(graph)

    def folded_block(self, block):
        """Return the block with what its constants make of its steps and its end."""
        steps, end = self.blocks[block]
        for place, step in enumerate(steps):
            if step[0] == "div" and self.tracer.word(step[3]) == 0:
                return (self.folded_steps(block, steps[:place + 1]), ("give", step[3]))
        return (self.folded_steps(block, steps), self.folded_end(end))

    def folded_steps(self, block, steps):
        """Return the tuple of the steps of the block, constants given by sets, other choices ahead of all."""
        choices = []
        others = []
        for step in steps:
            word = None if given(step) is None else self.tracer.word(step[1])
            if word is not None:
                others.append(("set", step[1], word))
            elif chooses(step):
                pairs = [pair for pair in step[2] if (pair[0], block) in self.tracer.gone]
                choices.append((step[0], step[1], tuple(pairs)))
            else:
                others.append(step)
        return tuple(choices + others)

    def folded_end(self, end):
        """Return the end, a go in the place of a pick on a constant."""
        if end[0] != "pick" or self.tracer.word(end[1]) is None:
            return end
        return ("go", self.tracer.goals(end)[0])

    def result(self):
        """Return the tuple of the folded blocks, numbered anew."""
        numbers = {old: new for new, old in enumerate(sorted(list(self.tracer.entered)))}
        blocks = [self.folded_block(block) if block in numbers else None for block in range(len(self.blocks))]
        return renumbered(blocks, numbers)


def constants(graph):
    """Return the ascending tuple of the pairs of a name with a single value and its word."""
    check_single(graph)
    return tuple(sorted(list(constants_of(graph).items())))


def entered(graph):
    """Return the ascending tuple of the blocks that are entered."""
    check_single(graph)
    return tuple(sorted(list(Tracer(graph).entered)))


def folded(graph):
    """Return a graph with the same meaning, of the blocks that are entered, in which constants are set."""
    check_single(graph)
    return (graph[0], Folder(graph).result())
