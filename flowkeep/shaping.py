"""Graphs without the blocks that can't be come to."""

from flowkeep.flow import reachable_of
from flowkeep.graphs import check_graph, chooses, with_goals


def _with_comers(step, numbers):
    """Return the step, of a choice with the pairs of the numbered comers alone, by their new numbers."""
    if not chooses(step):
        return step
    return (step[0], step[1], tuple([(numbers[comer], name) for comer, name in step[2] if comer in numbers]))


def renumbered(blocks, numbers):
    """Return the tuple of the blocks that the dict numbers anew, ascending; their goals must be among them."""
    found = []
    for old in numbers:
        steps, end = blocks[old]
        found.append((tuple([_with_comers(step, numbers) for step in steps]), with_goals(end, numbers)))
    return tuple(found)


def trimmed_blocks(blocks):
    """Return the tuple of the blocks that can be come to, numbered anew."""
    return renumbered(blocks, {old: new for new, old in enumerate(reachable_of(blocks))})


def trimmed(graph):
    """Return the graph without the blocks that can't be come to."""
    check_graph(graph)
    return (graph[0], trimmed_blocks(graph[1]))
