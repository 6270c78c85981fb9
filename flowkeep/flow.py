"""Blocks that go on to blocks, and ways in a graph."""

from flowkeep.errors import InvalidNumber
from flowkeep.graphs import check_block, check_graph, comers_of, goals
from flowkeep.words import is_integer

LONGEST_WAY = 20000
MOST_LISTED = 8


def goals_of(blocks):
    """Return the list of the ascending tuples of the goals of each block."""
    return [goals(end) for _, end in blocks]


def come_to(starts, edges, barred=None):
    """Return the ascending tuple of the blocks that can be come to from the starts, these among them.

    The edges tell for each block to which ones it leads. A barred block is neither entered nor left.
    """
    found = {}
    waiting = list(starts)
    while waiting:
        block = waiting.pop()
        if block != barred and block not in found:
            found[block] = True
            waiting.extend(edges[block])
    return tuple(sorted(list(found)))


def reachable_of(blocks):
    """Return the ascending tuple of the blocks that can be come to from block 0."""
    return come_to((0,), goals_of(blocks))


def _goals_in_turn(end):
    """Return the tuple of the goals of the end as they stand in it."""
    return end[1:] if end[0] == "go" else end[2:]


def _visit(block, blocks, visited, finished):
    """Visit the block and its goals that have not been visited, and list them as they are finished."""
    visited[block] = True
    for goal in _goals_in_turn(blocks[block][1]):
        if goal not in visited:
            _visit(goal, blocks, visited, finished)
    finished.append(block)


def order_of(blocks):
    """Return the tuple of the blocks that can be come to, the one that is finished last ahead of the others."""
    finished = []
    _visit(0, blocks, {}, finished)
    return tuple(finished[::-1])


def is_way_in(blocks, value):
    """Return whether the value is a way in a graph of these blocks."""
    if not isinstance(value, tuple) or not 1 <= len(value) <= LONGEST_WAY:
        return False
    if not all([is_integer(block) and 0 <= block < len(blocks) for block in value]):
        return False
    edges = goals_of(blocks)
    return value[0] == 0 and all([later in edges[earlier] for earlier, later in zip(value, value[1:])])


def after(graph, block):
    """Return the ascending tuple of the goals of the block."""
    check_graph(graph)
    check_block(graph, block)
    return goals(graph[1][block][1])


def before(graph, block):
    """Return the ascending tuple of the comers of the block."""
    check_graph(graph)
    check_block(graph, block)
    return comers_of(graph[1])[block]


def reachable(graph):
    """Return the ascending tuple of the blocks that can be come to from block 0."""
    check_graph(graph)
    return reachable_of(graph[1])


def order(graph):
    """Return the blocks that can be come to, each ahead of all blocks that are finished before it."""
    check_graph(graph)
    return order_of(graph[1])


def is_way(graph, value):
    """Return whether the value is a way in the graph."""
    check_graph(graph)
    return is_way_in(graph[1], value)


def shortest(graph, block):
    """Return the least one of the shortest ways that end with the block, or None."""
    check_graph(graph)
    check_block(graph, block)
    edges = goals_of(graph[1])
    found = {0: (0,)}
    # Ways of one length are gone on in ascending sequence, so the first one to a block is the least one.
    level = [0]
    while level and block not in found:
        further = []
        for last in level:
            for goal in edges[last]:
                if goal not in found:
                    found[goal] = (*found[last], goal)
                    further.append(goal)
        level = further
    return found.get(block)


def ways_to(graph, block, most):
    """Return the ascending tuple of all ways that end with the block and have at most so many blocks."""
    check_graph(graph)
    check_block(graph, block)
    if not is_integer(most) or not 1 <= most <= MOST_LISTED:
        raise InvalidNumber("a way listed must have at most 1 to 8 blocks")
    edges = goals_of(graph[1])
    found = []
    level = [(0,)]
    for _ in range(most):
        found.extend([way for way in level if way[-1] == block])
        level = [(*way, goal) for way in level for goal in edges[way[-1]]]
    return tuple(sorted(found))
