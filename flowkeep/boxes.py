"""Graphs in single form laid into boxes: as few as there are names at once."""

from flowkeep.flow import come_to, order_of
from flowkeep.graphs import chooses, comers_of, end_reads, end_reread, given, reads, reread
from flowkeep.single import check_single, givers_of, plain


class Watcher:
    """Tells for a graph in single form which names are there at once.

    `alive` is the list, by blocks, of the dicts of True by the names that are alive behind all steps of
    the block, those aside that its end alone reads.
    """

    def __init__(self, graph):
        self.inputs, self.blocks = graph
        self.comers = comers_of(self.blocks)
        self.alive = [{} for _ in self.blocks]
        # The blocks whose steps and ends read a name, and those behind whose ends choices read it.
        self.inside = {name: [] for name in givers_of(graph)}
        self.behind = {name: [] for name in self.inside}
        for block in range(len(self.blocks)):
            self.list_reads(block)
        for name, place in givers_of(graph).items():
            self.spread(name, place[0])

    def list_reads(self, block):
        """List the block for each name that it reads, and its comers for those that its choices read."""
        steps, end = self.blocks[block]
        for step in steps:
            if chooses(step):
                for comer, name in step[2]:
                    self.behind[name].append(comer)
            else:
                for name in reads(step):
                    self.inside[name].append(block)
        for name in end_reads(end):
            self.inside[name].append(block)

    def spread(self, name, giver):
        """Tell in which blocks the name is alive that the giver gives."""
        through = come_to(self.inside[name] + self.behind[name], self.comers, giver)
        for block in through:
            for comer in self.comers[block]:
                self.alive[comer][name] = True
        for block in self.behind[name]:
            self.alive[block][name] = True

    def there(self, block):
        """Return the list of the dicts of True by the names there at once, behind the choices and each other step."""
        steps, end = self.blocks[block]
        alive = dict(self.alive[block])
        for name in end_reads(end):
            alive[name] = True
        found = []
        for step in [step for step in steps if not chooses(step)][::-1]:
            if given(step) is None:
                found.append(dict(alive))
            else:
                found.append({**alive, given(step): True})
                alive.pop(given(step), None)
            for name in reads(step):
                alive[name] = True
        for name in self.begun(block):
            alive[name] = True
        return [alive] + found[::-1]

    def begun(self, block):
        """Return the list of the names that the block gives ahead of its other steps: choices, or inputs."""
        if block == 0:
            return list(self.inputs)
        return [step[1] for step in self.blocks[block][0] if chooses(step)]

    def greatest(self):
        """Return the greatest number of names that are there at once."""
        return max([len(names) for block in range(len(self.blocks)) for names in self.there(block)])


class Packer:
    """Lays the names of a graph in single form into boxes.

    Names are laid in a sequence in which each one comes behind all that are alive where it is given, so
    that one of as many boxes as there are names at once is always free.
    """

    def __init__(self, graph):
        self.blocks = graph[1]
        self.box = {}
        # A copy is spared if a choice and a name of one of its pairs are in one box.
        self.friends = {}
        for steps, _ in self.blocks:
            for step in steps:
                if chooses(step):
                    self.befriend(step)
        watcher = Watcher(graph)
        for block in order_of(self.blocks):
            self.pack(block, watcher)

    def befriend(self, choice):
        """Note which names are well laid into one box with the choice's name."""
        for name in reads(choice):
            self.friends.setdefault(name, []).append(choice[1])
            self.friends.setdefault(choice[1], []).append(name)

    def pack(self, block, watcher):
        """Lay all names that the block gives."""
        there = watcher.there(block)
        for name in watcher.begun(block):
            self.lay(name, there[0])
        others = [step for step in self.blocks[block][0] if not chooses(step)]
        for step, names in zip(others, there[1:]):
            if given(step) is not None:
                self.lay(given(step), names)

    def lay(self, name, names):
        """Lay the name into a box of none of the names."""
        taken = {self.box[other]: True for other in names if other in self.box}
        wanted = [self.box[other] for other in self.friends.get(name, []) if other in self.box]
        for box in wanted + list(range(len(names))):
            if box not in taken:
                self.box[name] = box
                return


def most_at_once(graph):
    """Return the greatest number of names that are there at once."""
    check_single(graph)
    return Watcher(graph).greatest()


def together(graph):
    """Return the ascending tuple of the pairs of names that are there at once somewhere, the less one first."""
    check_single(graph)
    watcher = Watcher(graph)
    found = {}
    for block in range(len(graph[1])):
        for names in watcher.there(block):
            ascending = sorted(list(names))
            for at, one in enumerate(ascending):
                for other in ascending[at + 1:]:
                    found[(one, other)] = True
    return tuple(sorted(list(found)))


def boxes(graph):
    """Return the ascending tuple of the pairs of a name and the number of its box."""
    check_single(graph)
    return tuple(sorted(list(Packer(graph).box.items())))


def in_boxes(graph):
    """Return a plain graph with the same meaning, whose names are boxes and one that is used for copies."""
    check_single(graph)
    inputs, blocks = graph
    named = {name: f"b{box}" for name, box in Packer(graph).box.items()}
    found = []
    for steps, end in blocks:
        renamed = [reread(step, named) for step in steps]
        renamed = [step if given(step) is None else (step[0], named[step[1]]) + step[2:] for step in renamed]
        found.append((tuple(renamed), end_reread(end, named)))
    return plain((tuple([named[name] for name in inputs]), tuple(found)))
