"""Graphs in which expressions are reckoned as early as they are needed."""

from flowkeep.facts import Reckoner, expression_of, expressions_of
from flowkeep.graphs import check_plain, check_size, comers_of, given, names_of, with_goals
from flowkeep.shaping import trimmed_blocks
from flowkeep.single import with_entry


def _new_names(graph, many):
    """Return the list of so many names that do not stand in the graph."""
    barred = {name: True for name in names_of(graph)}
    found = []
    at = 0
    while len(found) < many:
        if f"e{at}" not in barred:
            found.append(f"e{at}")
        at += 1
    return found


class Placer:
    """Finds where an expression is reckoned, so that at each block at which it is needed it has been.

    `ahead` and `behind` are the lists of the blocks at whose beginnings and ends it is, `between` that of
    the pairs of a block and a goal on whose edges it is. Block 0 must have no comers.
    """

    def __init__(self, reckoner, comers, expression):
        self.edges = reckoner.edges
        self.comers = comers
        self.need = reckoner.blocks_in_need(expression)
        without = reckoner.blocks_without(expression)
        self.ahead = [0] if 0 in self.need else []
        self.between = []
        changed = [reckoner.changes(block, expression) for block in range(len(self.edges))]
        # At the ends of these blocks the expression is not at hand.
        missing = [
            block for block in range(len(self.edges))
            if expression not in reckoner.late[block] and (changed[block] or block in without)]
        self.behind = [block for block in missing if changed[block] and self.is_needed_behind(block)]
        self.place_from([block for block in missing if not self.is_needed_behind(block)])

    def is_needed_behind(self, block):
        """Return whether the block has goals, and the expression is needed at all of them."""
        return len(self.edges[block]) > 0 and all([goal in self.need for goal in self.edges[block]])

    def place_from(self, starts):
        """Place the expression where it begins to be needed on the edges from the starts."""
        edges = [(block, goal) for block in starts for goal in self.edges[block] if goal in self.need]
        for block, goal in edges:
            if all([(comer, goal) in edges for comer in self.comers[goal]]):
                if goal not in self.ahead:
                    self.ahead.append(goal)
            else:
                self.between.append((block, goal))


class Lifter:
    """Puts the expressions of a plain graph where they are reckoned as early as they are needed."""

    def __init__(self, graph):
        self.blocks = with_entry(trimmed_blocks(graph[1]))
        expressions = expressions_of(self.blocks)
        self.named = dict(zip(expressions, _new_names(graph, len(expressions))))
        many = len(self.blocks)
        # For each block, the expressions that are reckoned already when its steps begin.
        self.ready = [{} for _ in range(many)]
        self.ahead = [[] for _ in range(many)]
        self.behind = [[] for _ in range(many)]
        self.between = {}
        self.ends = [end for _, end in self.blocks]
        reckoner = Reckoner(self.blocks)
        comers = comers_of(self.blocks)
        for expression in expressions:
            self.put(expression, Placer(reckoner, comers, expression))

    def put(self, expression, placer):
        """Put the expression where the placer has found that it is reckoned."""
        step = self.reckoning(expression)
        for block in placer.need:
            self.ready[block][expression] = True
        for block in placer.ahead:
            self.ahead[block].append(step)
        for block in placer.behind:
            self.behind[block].append(step)
        for edge in placer.between:
            self.between.setdefault(edge, []).append(step)

    def reckoning(self, expression):
        """Return the step that keeps the expression under its new name."""
        return (expression[0], self.named[expression]) + expression[1:]

    def lifted_steps(self, block):
        """Return the list of the steps of the block, which read what is kept of expressions."""
        ready = {one: True for one in self.ready[block]}
        found = list(self.ahead[block])
        for step in self.blocks[block][0]:
            expression = expression_of(step)
            if expression is None:
                found.append(step)
            else:
                if expression not in ready:
                    found.append(self.reckoning(expression))
                    ready[expression] = True
                found.append(("copy", step[1], self.named[expression]))
            ready = {one: True for one in ready if given(step) not in one[1:]}
        return found + self.behind[block]

    def result(self):
        """Return the tuple of the blocks, those on edges behind the others."""
        further = []
        for edge, steps in self.between.items():
            block, goal = edge
            numbers = {one: one for one in range(len(self.blocks) + len(further))}
            numbers[goal] = len(self.blocks) + len(further)
            self.ends[block] = with_goals(self.ends[block], numbers)
            further.append((tuple(steps), ("go", goal)))
        found = [(tuple(self.lifted_steps(block)), self.ends[block]) for block in range(len(self.blocks))]
        return tuple(found + further)


def lifted(graph):
    """Return a plain graph with the same meaning that reckons each expression as early as it is needed."""
    check_plain(graph)
    blocks = Lifter(graph).result()
    check_size(blocks)
    return (graph[0], blocks)


def reckonings(graph, way):
    """Return how many steps with expressions the blocks of the way have, each as often as it stands in it."""
    blocks = graph[1]
    many = [len([step for step in steps if expression_of(step) is not None]) for steps, _ in blocks]
    return sum([many[block] for block in way])
