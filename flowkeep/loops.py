"""Loops: what back edges to one head enclose, and rings of blocks that are none."""

from flowkeep.errors import NoLoop
from flowkeep.flow import come_to, goals_of, reachable_of
from flowkeep.graphs import check_block, check_graph, comers_of
from flowkeep.ruling import rulers_of


def back_edges_of(blocks):
    """Return the ascending tuple of the pairs of a block and a goal of it that rules it."""
    edges = goals_of(blocks)
    ruled = rulers_of(blocks)
    return tuple([(block, goal) for block in range(len(blocks)) for goal in edges[block] if goal in ruled[block]])


def loops_of(blocks):
    """Return the dict of the ascending tuples of the loops by their heads."""
    back = back_edges_of(blocks)
    comers = comers_of(blocks)
    found = reachable_of(blocks)
    looped = {}
    for _, head in back:
        sources = [block for block, goal in back if goal == head]
        inner = come_to(sources, comers, head)
        looped[head] = tuple([block for block in found if block == head or block in inner])
    return looped


def check_head(looped, head):
    """Raise NoLoop if the block is not the head of one of the loops."""
    if head not in looped:
        raise NoLoop("the block is not the head of a loop")


def back_edges(graph):
    """Return the ascending tuple of the pairs of a block and a goal of it that rules it."""
    check_graph(graph)
    return back_edges_of(graph[1])


def heads(graph):
    """Return the ascending tuple of the goals of the back edges."""
    check_graph(graph)
    return tuple(sorted(set([goal for _, goal in back_edges_of(graph[1])])))


def loop(graph, head):
    """Return the ascending tuple of the blocks of the loop of the head."""
    check_graph(graph)
    check_block(graph, head)
    looped = loops_of(graph[1])
    check_head(looped, head)
    return looped[head]


def depth(graph, block):
    """Return in how many loops the block lies."""
    check_graph(graph)
    check_block(graph, block)
    return len([head for head, inner in loops_of(graph[1]).items() if block in inner])


def outer(graph, head):
    """Return the head of the smallest loop of another head that contains the head, or None."""
    check_graph(graph)
    check_block(graph, head)
    looped = loops_of(graph[1])
    check_head(looped, head)
    around = [(len(inner), other) for other, inner in looped.items() if other != head and head in inner]
    return min(around)[1] if around else None


def tangles(graph):
    """Return the ascending tuple of the greatest sets of blocks on common rings without back edges."""
    check_graph(graph)
    blocks = graph[1]
    back = back_edges_of(blocks)
    found = reachable_of(blocks)
    edges = [[goal for goal in row if (at, goal) not in back] for at, row in enumerate(goals_of(blocks))]
    further = [come_to(row, edges) for row in edges]
    tangled = []
    for block in found:
        if block in further[block]:
            tangled.append(tuple([other for other in further[block] if block in further[other]]))
    return tuple(sorted(set(tangled)))
