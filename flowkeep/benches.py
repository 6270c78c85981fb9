"""Passes by their names, and benches on which graphs are led through them."""

from flowkeep.boxes import in_boxes
from flowkeep.classes import shared
from flowkeep.cleaning import joined, jumped, swept, uncopied
from flowkeep.constants import folded
from flowkeep.errors import InvalidPass, NothingToUndo
from flowkeep.finding import paper
from flowkeep.graphs import check_graph
from flowkeep.motion import lifted
from flowkeep.shaping import trimmed
from flowkeep.single import plain, single

PASSES = (
    "folded", "in_boxes", "joined", "jumped", "lifted", "plain", "shared", "single", "swept", "trimmed", "uncopied")
MOST_PASSES = 12


def _is_pass(value):
    """Return whether the value is the name of a pass."""
    return isinstance(value, str) and value in PASSES


def _led(graph, name):
    """Return what the pass of the name makes of the graph."""
    actions = {
        "folded": folded, "in_boxes": in_boxes, "joined": joined, "jumped": jumped, "lifted": lifted, "plain": plain,
        "shared": shared, "single": single, "swept": swept, "trimmed": trimmed, "uncopied": uncopied}
    action = actions[name]
    return action(graph)


def passes():
    """Return the ascending tuple of the names of the passes."""
    return PASSES


def led_through(graph, names):
    """Return what the passes of the names make of the graph, one after the other."""
    check_graph(graph)
    if not isinstance(names, tuple) or len(names) > MOST_PASSES or not all([_is_pass(name) for name in names]):
        raise InvalidPass("the value is not a tuple of at most 12 names of passes")
    for name in names:
        graph = _led(graph, name)
    return graph


class Bench:
    """A graph that is led through passes, which can be undone and performed again."""

    def __init__(self, graph):
        check_graph(graph)
        # One graph more than there are names of passes that are not undone.
        self.graphs = [graph]
        self.done = []
        # What was undone last stands last.
        self.undone = []

    def lead(self, name):
        """Lead the graph through the pass of the name, and return the graph then."""
        if not _is_pass(name):
            raise InvalidPass("the value is not the name of a pass")
        led = _led(self.graphs[-1], name)
        self.graphs.append(led)
        self.done.append(name)
        self.undone = []
        return led

    def graph(self):
        """Return the graph."""
        return self.graphs[-1]

    def names(self):
        """Return the tuple of the names of the passes that are not undone."""
        return tuple(self.done)

    def papers(self):
        """Return the tuple of the papers, or None, for the graphs ahead of each of these passes and behind it."""
        return tuple([paper(old, new) for old, new in zip(self.graphs, self.graphs[1:])])

    def undo(self):
        """Revert the last lead, and return the name of the pass."""
        if not self.done:
            raise NothingToUndo("there is no pass to be undone")
        name = self.done.pop()
        self.undone.append((name, self.graphs.pop()))
        return name

    def redo(self):
        """Perform again the last lead that was undone, and return the name of the pass."""
        if not self.undone:
            raise NothingToUndo("there is no pass to be performed again")
        name, led = self.undone.pop()
        self.graphs.append(led)
        self.done.append(name)
        return name

    def __len__(self):
        """Return the number of passes that are not undone."""
        return len(self.done)

    def __eq__(self, other):
        """Return whether the other value is a bench that began with the same graph, led through the same passes."""
        return isinstance(other, Bench) and self.graphs[0] == other.graphs[0] and self.done == other.done
