"""Runs of graphs."""

from flowkeep.errors import InvalidValues
from flowkeep.graphs import CELLS, check_graph, given, chooses, names_of
from flowkeep.words import are_words, is_integer, reckoned

MOST_ANSWERS = 60
MOST_COUNT = 20000


class Runner:
    """A run on its way: what it has done, and where it stands."""

    def __init__(self, graph, words, answers):
        inputs, self.blocks = graph
        self.named = {name: 0 for name in names_of(graph)}
        for name, word in zip(inputs, words):
            self.named[name] = word
        self.cells = [0] * CELLS
        self.answers = answers
        self.asked = 0
        self.shown = []
        self.entered = [0]
        self.came_from = None
        self.place = 0
        self.count = 0
        self.end = ("going",)

    def advance(self):
        """Perform the choices of a block together, or one other step, or the end."""
        steps, end = self.blocks[self.entered[-1]]
        if self.place == len(steps):
            self.count += 1
            self.perform_end(end)
        elif chooses(steps[self.place]):
            choices = [step for step in steps if chooses(step)]
            self.count += len(choices)
            self.place = len(choices)
            self.perform_choices(choices)
        else:
            self.count += 1
            self.place += 1
            self.perform(steps[self.place - 1])

    def perform_end(self, end):
        """Perform the end of a block."""
        if end[0] == "give":
            self.end = ("give", self.named[end[1]])
        elif end[0] == "go" or self.named[end[1]] != 0:
            self.enter(end[1] if end[0] == "go" else end[2])
        else:
            self.enter(end[3])

    def enter(self, block):
        """Go on to the block."""
        self.came_from = self.entered[-1]
        self.entered.append(block)
        self.place = 0

    def perform_choices(self, choices):
        """Perform the choices all at once."""
        chosen = [self.named[dict(step[2])[self.came_from]] for step in choices]
        for step, word in zip(choices, chosen):
            self.named[step[1]] = word

    def perform(self, step):
        """Perform a step other than a choice."""
        if step[0] == "show":
            self.shown.append(self.named[step[1]])
        elif step[0] == "write":
            self.cells[step[1]] = self.named[step[2]]
        elif step[0] == "div" and self.named[step[3]] == 0:
            self.end = ("stop",)
        else:
            self.named[given(step)] = self.result(step)

    def result(self, step):
        """Return the word that the step gives its name."""
        kind = step[0]
        if kind == "set":
            return step[2]
        if kind == "copy":
            return self.named[step[2]]
        if kind == "read":
            return self.cells[step[2]]
        if kind == "ask":
            self.asked += 1
            return self.answers[self.asked - 1] if self.asked <= len(self.answers) else 0
        other = step[3] if kind == "times" else self.named[step[3]]
        return reckoned(kind, self.named[step[2]], other)


def _ran(graph, values, answers, most):
    """Return the runner behind a run of at most so many steps."""
    check_graph(graph)
    if not are_words(values, len(graph[0])):
        raise InvalidValues("the values must be a tuple of as many words as there are inputs")
    if not isinstance(answers, tuple) or len(answers) > MOST_ANSWERS or not are_words(answers, len(answers)):
        raise InvalidValues("the answers must be a tuple of at most 60 words")
    if not is_integer(most) or not 0 <= most <= MOST_COUNT:
        raise InvalidValues("the greatest count must be an integer from 0 to 20000")
    runner = Runner(graph, values, answers)
    while runner.count < most and runner.end == ("going",):
        runner.advance()
    return runner


def run(graph, values, answers, most):
    """Return the tuple of the shown words, and the end, of the run of at most so many steps."""
    runner = _ran(graph, values, answers, most)
    return (tuple(runner.shown), runner.end)


def visits(graph, values, answers, most):
    """Return the tuple of the blocks that the run enters."""
    return tuple(_ran(graph, values, answers, most).entered)


def count_run(graph, values, answers, most):
    """Return the count at the end of the run."""
    return _ran(graph, values, answers, most).count
