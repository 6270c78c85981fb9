"""Facts about plain graphs: live names, steps that reach, expressions at hand and needed."""

from flowkeep.flow import come_to, goals_of
from flowkeep.graphs import check_block, check_plain, comers_of, end_reads, given, reads

EXPRESSIONS = ("add", "sub", "mul", "less", "times")


def expression_of(step):
    """Return the expression that the step reckons, or None."""
    return (step[0],) + step[2:] if step[0] in EXPRESSIONS else None


def expression_text(expression):
    """Return the texts of the parts of the expression, joined by single spaces."""
    return " ".join([str(part) for part in expression])


def expressions_of(blocks):
    """Return the list of the expressions that steps of the blocks reckon, in sequence."""
    found = {}
    for steps, _ in blocks:
        for step in steps:
            if expression_of(step) is not None:
                found[expression_of(step)] = True
    return sorted(list(found), key=expression_text)


def givings(steps):
    """Return the dict, by the names that the steps give, of the places at which they are given last."""
    return {given(step): at for at, step in enumerate(steps) if given(step) is not None}


def _read_ahead(block):
    """Return the dict of True, by the names that the block reads ahead of giving them."""
    steps, end = block
    found = {}
    new = {}
    for step in steps:
        for name in reads(step):
            if name not in new:
                found[name] = True
        if given(step) is not None:
            new[given(step)] = True
    for name in end_reads(end):
        if name not in new:
            found[name] = True
    return found


def live_of(blocks):
    """Return the list of the dicts of True, by the names live at each block of a plain graph."""
    comers = comers_of(blocks)
    new = [givings(steps) for steps, _ in blocks]
    ahead = [_read_ahead(block) for block in blocks]
    found = [{} for _ in blocks]
    for name in sorted(set([name for names in ahead for name in names])):
        edges = [[comer for comer in row if name not in new[comer]] for row in comers]
        for block in come_to([at for at, names in enumerate(ahead) if name in names], edges):
            found[block][name] = True
    return found


class Reckoner:
    """What each block of a plain graph does to expressions.

    For each block there is a dict of True, by the expressions that it reckons ahead of giving a name
    of them (`early`), by those that it reckons without giving a name of them afterwards (`late`), and
    a dict whose keys are the names that it gives (`new`).
    """

    def __init__(self, blocks):
        self.blocks = blocks
        self.edges = goals_of(blocks)
        self.new = [givings(steps) for steps, _ in blocks]
        self.early = [{} for _ in blocks]
        self.late = [{} for _ in blocks]
        for at in range(len(blocks)):
            self.look_at(at)

    def look_at(self, at):
        """Find what the steps of the block reckon early and late."""
        new = {}
        for step in self.blocks[at][0]:
            expression = expression_of(step)
            if expression is not None:
                self.late[at][expression] = True
                if not any([part in new for part in expression[1:]]):
                    self.early[at][expression] = True
            if given(step) is not None:
                new[given(step)] = True
                self.late[at] = {one: True for one in self.late[at] if given(step) not in one[1:]}

    def changes(self, at, expression):
        """Return whether the block gives a name of the expression."""
        return any([part in self.new[at] for part in expression[1:]])

    def lets_through(self, at, expression):
        """Return whether the block neither reckons the expression nor gives a name of it."""
        return expression not in self.early[at] and not self.changes(at, expression)

    def blocks_without(self, expression):
        """Return the ascending tuple of the blocks that can be come to with the expression not at hand."""
        starts = [0]
        for at in come_to((0,), self.edges):
            if expression not in self.late[at] and self.changes(at, expression):
                starts.extend(self.edges[at])
        edges = [row if self.lets_through(at, expression) else () for at, row in enumerate(self.edges)]
        return come_to(starts, edges)

    def blocks_in_need(self, expression):
        """Return the dict of True, by the blocks at which the expression is needed.

        Blocks are added as long as all goals of one that lets the expression through are among them, so
        that a row that never ends and never reckons it keeps its blocks out.
        """
        found = {at: True for at in range(len(self.blocks)) if expression in self.early[at]}
        passing = [at for at, row in enumerate(self.edges) if row and self.lets_through(at, expression)]
        grown = True
        while grown:
            grown = False
            for at in passing:
                if at not in found and all([goal in found for goal in self.edges[at]]):
                    found[at] = True
                    grown = True
        return found


def live(graph, block):
    """Return the ascending tuple of the names that are read, ahead of being given, from the block on."""
    check_plain(graph)
    check_block(graph, block)
    return tuple(sorted(list(live_of(graph[1])[block])))


def reaching(graph, block):
    """Return the ascending tuple of the pairs of block and place of steps whose names reach the block."""
    check_plain(graph)
    check_block(graph, block)
    edges = goals_of(graph[1])
    new = [givings(steps) for steps, _ in graph[1]]
    found = []
    for at in come_to((0,), edges):
        for name, place in new[at].items():
            keeping = [() if name in new[other] else row for other, row in enumerate(edges)]
            if block in come_to(edges[at], keeping):
                found.append((at, place))
    return tuple(sorted(found))


def at_hand(graph, block):
    """Return the tuple of the expressions that are reckoned on every way to the block and not changed then."""
    check_plain(graph)
    check_block(graph, block)
    reckoner = Reckoner(graph[1])
    if block not in come_to((0,), reckoner.edges):
        return ()
    expressions = expressions_of(graph[1])
    return tuple([one for one in expressions if block not in reckoner.blocks_without(one)])


def needed(graph, block):
    """Return the tuple of the expressions that are reckoned, unchanged, on every row from the block on."""
    check_plain(graph)
    check_block(graph, block)
    reckoner = Reckoner(graph[1])
    return tuple([one for one in expressions_of(graph[1]) if block in reckoner.blocks_in_need(one)])
