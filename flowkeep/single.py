"""Graphs in single form, in which no name is given twice, and back to plain ones."""

from flowkeep.errors import NotSingle
from flowkeep.facts import live_of
from flowkeep.flow import order_of, reachable_of
from flowkeep.graphs import (
    check_graph, check_plain, check_size, chooses, comers_of, end_reads, end_reread, given, goals, is_graph, names_of,
    reads, reread, with_goals)
from flowkeep.ruling import fringes_of, nearest_of, rulers_of, whole_fringe_of
from flowkeep.shaping import renumbered, trimmed_blocks


def givers_of(graph):
    """Return the dict, by names, of the pairs of block and place of the steps that give them.

    Inputs are given ahead of all steps, at place -1 of block 0.
    """
    inputs, blocks = graph
    found = {name: (0, -1) for name in inputs}
    for at, block in enumerate(blocks):
        for place, step in enumerate(block[0]):
            if given(step) is not None:
                found[given(step)] = (at, place)
    return found


def _count_givings(graph):
    """Return how many names are given by inputs and steps, each as often as it is."""
    inputs, blocks = graph
    return len(inputs) + len([step for steps, _ in blocks for step in steps if given(step) is not None])


def _readings(blocks):
    """Return the list of the triples of each name that is read, and the block and the place at which it must be given.

    A choice reads the name of a pair behind all steps of the block of the pair.
    """
    found = []
    for at, block in enumerate(blocks):
        steps, end = block
        for place, step in enumerate(steps):
            if chooses(step):
                found.extend([(name, comer, len(blocks[comer][0])) for comer, name in step[2]])
            else:
                found.extend([(name, at, place) for name in reads(step)])
        found.extend([(name, at, len(steps)) for name in end_reads(end)])
    return found


def _is_given_ahead(reading, givers, ruled):
    """Return whether the name that is read is given on every way ahead."""
    name, block, place = reading
    if name not in givers:
        return False
    giver, at = givers[name]
    return at < place if giver == block else giver in ruled[block]


def is_single(value):
    """Return whether the value is a graph in single form."""
    if not is_graph(value):
        return False
    blocks = value[1]
    if len(reachable_of(blocks)) < len(blocks) or comers_of(blocks)[0]:
        return False
    givers = givers_of(value)
    if _count_givings(value) != len(givers):
        return False
    ruled = rulers_of(blocks)
    return all([_is_given_ahead(reading, givers, ruled) for reading in _readings(blocks)])


def check_single(graph):
    """Raise InvalidGraph if the value is not a graph, and NotSingle if it is not in single form."""
    check_graph(graph)
    if not is_single(graph):
        raise NotSingle("the graph must be in single form")


def with_entry(blocks):
    """Return the blocks, behind a new block 0 if some block goes on to block 0."""
    if not comers_of(blocks)[0]:
        return blocks
    return (((), ("go", 1)),) + renumbered(blocks, {old: old + 1 for old in range(len(blocks))})


def _with_zeros(inputs, blocks):
    """Return the blocks with a step in block 0 for each name that is live there and no input."""
    zeros = [("set", name, 0) for name in sorted(list(live_of(blocks)[0])) if name not in inputs]
    steps, end = blocks[0]
    return ((tuple(zeros) + steps, end),) + blocks[1:]


def _due(inputs, blocks):
    """Return the list of the ascending lists of the names of which choices are due in each block."""
    fringes = fringes_of(blocks)
    alive = live_of(blocks)
    givers = {name: [0] for name in inputs}
    for at, block in enumerate(blocks):
        for step in block[0]:
            if given(step) is not None:
                givers.setdefault(given(step), []).append(at)
    found = [[] for _ in blocks]
    for name in sorted(list(givers)):
        for block in whole_fringe_of(fringes, givers[name]):
            if name in alive[block]:
                found[block].append(name)
    return found


class Renamer:
    """Gives the names of a plain graph anew, so that none is given twice."""

    def __init__(self, inputs, blocks):
        self.blocks = blocks
        self.many = 0
        self.inputs = {name: self.fresh() for name in inputs}
        # The new names of the choices by the old ones, and those of the steps in sequence, for each block.
        self.chosen = []
        self.stepped = []
        for due, block in zip(_due(inputs, blocks), blocks):
            self.chosen.append({name: self.fresh() for name in due})
            self.stepped.append([None if given(step) is None else self.fresh() for step in block[0]])
        # The last new names by the old ones, and the renamed steps and ends, for each block.
        self.last = [{} for _ in blocks]
        self.steps = [() for _ in blocks]
        self.ends = [None for _ in blocks]
        self.rename()

    def fresh(self):
        """Return the next new name."""
        self.many += 1
        return f"v{self.many - 1}"

    def rename(self):
        """Rename the blocks, each one behind the block whose last names it begins with."""
        nearest = nearest_of(rulers_of(self.blocks))
        for block in order_of(self.blocks):
            ahead = self.inputs if nearest[block] is None else self.last[nearest[block]]
            self.rename_block(block, {**ahead, **self.chosen[block]})

    def rename_block(self, block, named):
        """Rename the steps and the end of the block, if it begins with these new names."""
        steps, end = self.blocks[block]
        found = []
        for step, name in zip(steps, self.stepped[block]):
            renamed = reread(step, named)
            if name is not None:
                named[given(step)] = name
                renamed = (renamed[0], name) + renamed[2:]
            found.append(renamed)
        self.steps[block] = tuple(found)
        self.ends[block] = end_reread(end, named)
        self.last[block] = named

    def due_choices(self, block, comers):
        """Return the tuple of the choices that are due in the block, with these comers."""
        return tuple([
            ("choose", name, tuple([(comer, self.last[comer][old]) for comer in comers]))
            for old, name in self.chosen[block].items()])

    def result(self):
        """Return the tuple of the renamed blocks."""
        comers = comers_of(self.blocks)
        return tuple([
            (self.due_choices(block, comers[block]) + self.steps[block], self.ends[block])
            for block in range(len(self.blocks))])


def single(graph):
    """Return a graph in single form with the same meaning as the plain graph."""
    check_plain(graph)
    inputs = graph[0]
    renamer = Renamer(inputs, _with_zeros(inputs, with_entry(trimmed_blocks(graph[1]))))
    blocks = renamer.result()
    check_size(blocks)
    return (tuple([renamer.inputs[name] for name in inputs]), blocks)


def _copy_chain(name, waiting, readers, steps):
    """Copy to the name, and on to the names that are read no more then, as far as they are waiting."""
    while name in waiting and readers.get(name, 0) == 0:
        source = waiting.pop(name)
        steps.append(("copy", name, source))
        readers[source] -= 1
        name = source


def _copy_ring(first, spare, waiting, steps):
    """Copy around the ring of the name, whose value the spare name keeps meanwhile."""
    steps.append(("copy", spare, first))
    name = first
    while name in waiting:
        source = waiting.pop(name)
        steps.append(("copy", name, spare if source == first else source))
        name = source


def in_sequence(pairs, spare):
    """Return a list of copies that give each first name the value that its second name had ahead of all."""
    waiting = {name: source for name, source in pairs if name != source}
    readers = {}
    for source in waiting.values():
        readers[source] = readers.get(source, 0) + 1
    steps = []
    names = list(waiting)
    for name in names:
        _copy_chain(name, waiting, readers, steps)
    # Rings alone are left: each name that is still to be given is still to be read, by one pair.
    for name in names:
        if name in waiting:
            _copy_ring(name, spare, waiting, steps)
    return steps


def _unused_name(graph):
    """Return a name that does not stand in the graph."""
    found = names_of(graph)
    at = 0
    while f"t{at}" in found:
        at += 1
    return f"t{at}"


class Copier:
    """Puts copies into a graph in the place of its choices."""

    def __init__(self, blocks):
        self.blocks = blocks
        self.comers = comers_of(blocks)
        self.ahead = [() for _ in blocks]
        self.behind = [() for _ in blocks]
        self.ends = [end for _, end in blocks]
        self.further = []

    def put(self, comer, block, copies):
        """Put the copies where they are performed just if the block is come to from the comer."""
        if len(goals(self.blocks[comer][1])) == 1:
            self.behind[comer] = copies
        elif len(self.comers[block]) == 1:
            self.ahead[block] = copies
        elif copies:
            numbers = {goal: goal for goal in goals(self.ends[comer])}
            numbers[block] = len(self.blocks) + len(self.further)
            self.ends[comer] = with_goals(self.ends[comer], numbers)
            self.further.append((copies, ("go", block)))

    def result(self):
        """Return the tuple of the blocks with the copies and without choices."""
        found = []
        for at, block in enumerate(self.blocks):
            others = tuple([step for step in block[0] if not chooses(step)])
            found.append((self.ahead[at] + others + self.behind[at], self.ends[at]))
        return tuple(found + self.further)


def plain(graph):
    """Return a plain graph with the same meaning, in which copies have taken the place of choices."""
    check_graph(graph)
    inputs, blocks = graph
    spare = _unused_name(graph)
    copier = Copier(blocks)
    for at, comers in enumerate(comers_of(blocks)):
        choices = [step for step in blocks[at][0] if chooses(step)]
        for comer in comers:
            pairs = [(step[1], dict(step[2])[comer]) for step in choices]
            copier.put(comer, at, tuple(in_sequence(pairs, spare)))
    blocks = copier.result()
    check_size(blocks)
    return (inputs, blocks)
