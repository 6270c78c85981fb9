"""Names with equal values in graphs in single form."""

from flowkeep.flow import order_of
from flowkeep.graphs import chooses, end_reread, given, reread
from flowkeep.ruling import rulers_of
from flowkeep.single import check_single, givers_of

# What these give is in one class with copies of it alone.
ALONE = ("ask", "read")


class Sorter:
    """Sorts the names of a graph in single form into the fewest classes that fit.

    Once it is told which choices are in one class, all other names can be sorted, each one behind those
    that its step reads. At first all choices of a block are in one class; then the names of their pairs
    tell which ones are, again and again, until no class falls apart.
    """

    def __init__(self, graph):
        self.inputs, blocks = graph
        self.steps = []
        self.choices = []
        for block in order_of(blocks):
            self.steps.extend([step for step in blocks[block][0] if given(step) is not None and not chooses(step)])
            self.choices.extend([(block, step) for step in blocks[block][0] if chooses(step)])
        # The number of the class of each name, inputs ahead of choices ahead of other steps.
        self.classed = {}
        self.sort_all()

    def sort_all(self):
        """Sort all names."""
        marks = [block for block, _ in self.choices]
        many = -1
        while len(set(marks)) > many:
            many = len(set(marks))
            self.sort_by(marks)
            marks = [(block, *[self.classed[name] for _, name in step[2]]) for block, step in self.choices]

    def sort_by(self, marks):
        """Sort all names, if choices with equal marks are in one class."""
        known = {}
        self.classed = {}
        for name in self.inputs:
            self.put(name, ("in", name), known)
        for choice, mark in zip(self.choices, marks):
            self.put(choice[1][1], ("choose", mark), known)
        for step in self.steps:
            if step[0] == "copy":
                self.classed[step[1]] = self.classed[step[2]]
            else:
                self.put(step[1], self.mark(step), known)

    def put(self, name, mark, known):
        """Put the name into the class of the names with the same mark."""
        self.classed[name] = known.setdefault(mark, len(known))

    def mark(self, step):
        """Return what is equal for two steps, no copies or choices, just if their names are in one class."""
        kind = step[0]
        if kind in ALONE:
            return (kind, step[1])
        if kind == "set":
            return (kind, step[2])
        one = self.classed[step[2]]
        if kind == "times":
            return (kind, one, step[3])
        other = self.classed[step[3]]
        if kind in ("add", "mul"):
            return (kind, min(one, other), max(one, other))
        return (kind, one, other)


class Leader:
    """Finds for each name of a graph in single form the one of its class that is to be read for it."""

    def __init__(self, graph):
        self.blocks = graph[1]
        self.givers = givers_of(graph)
        self.ruled = rulers_of(self.blocks)
        self.leading = {}
        leaders = {}
        for name, number in Sorter(graph).classed.items():
            self.leading[name] = self.leader(name, leaders.setdefault(number, []))

    def leader(self, name, leaders):
        """Return the leader that stands ahead of the name; if there is none, the name becomes one."""
        # Names come in a sequence in which none comes ahead of one that stands ahead of it.
        for other in leaders:
            if self.stands_ahead(other, name):
                return other
        leaders.append(name)
        return name

    def stands_ahead(self, other, name):
        """Return whether the other name stands ahead of the name."""
        block, place = self.givers[name]
        its_block, its_place = self.givers[other]
        if block != its_block:
            return its_block in self.ruled[block]
        return its_place < place and not chooses(self.blocks[block][0][place])

    def led(self, step):
        """Return the step with leaders in the place of the names that it reads; a copy, if its name is led."""
        name = given(step)
        if name is None or self.leading[name] == name:
            return reread(step, self.leading)
        return ("copy", name, self.leading[name])

    def led_block(self, block):
        """Return the block with leaders in the place of the names that it reads."""
        return (tuple([self.led(step) for step in block[0]]), end_reread(block[1], self.leading))


def classes(graph):
    """Return the ascending tuple of the classes, the fewest that fit, as ascending tuples."""
    check_single(graph)
    found = {}
    for name, number in Sorter(graph).classed.items():
        found.setdefault(number, []).append(name)
    return tuple(sorted([tuple(sorted(names)) for names in found.values()]))


def shared(graph):
    """Return a graph with the same meaning in which no name is read for which one of its class stands ahead."""
    check_single(graph)
    leader = Leader(graph)
    return (graph[0], tuple([leader.led_block(block) for block in graph[1]]))
