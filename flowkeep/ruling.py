"""Blocks that rule others: those that stand on every way to them."""

from flowkeep.errors import InvalidBlock
from flowkeep.flow import come_to, goals_of
from flowkeep.graphs import check_block, check_graph, goals
from flowkeep.words import is_integer


def rulers_of(blocks):
    """Return the list of the ascending tuples of the rulers of each block, () for one that can't be come to."""
    edges = goals_of(blocks)
    found = come_to((0,), edges)
    ruled = [[] for _ in blocks]
    for one in found:
        without = come_to((0,), edges, one)
        for block in found:
            if block not in without:
                ruled[block].append(one)
    return [tuple(rules) for rules in ruled]


def nearest_of(ruled):
    """Return the list of the other rulers that all others rule, or None; told are the rulers of each block."""
    found = []
    for block, rules in enumerate(ruled):
        others = [one for one in rules if one != block]
        # Of the rulers of a block each one rules, or is ruled by, each other one.
        found.append(max(others, key=lambda one: len(ruled[one]), default=None))
    return found


def fringes_of(blocks):
    """Return the list of the ascending tuples of the fringes of each block."""
    ruled = rulers_of(blocks)
    found = [{} for _ in blocks]
    for comer, (_, end) in enumerate(blocks):
        for goal in goals(end):
            for one in ruled[comer]:
                if one == goal or one not in ruled[goal]:
                    found[one][goal] = True
    return [tuple(sorted(list(fringed))) for fringed in found]


def whole_fringe_of(fringes, blocks):
    """Return the ascending tuple of the blocks in the fringes of the blocks, in those of these, and so on."""
    return come_to([goal for block in blocks for goal in fringes[block]], fringes)


def rulers(graph, block):
    """Return the ascending tuple of the blocks that rule the block."""
    check_graph(graph)
    check_block(graph, block)
    return rulers_of(graph[1])[block]


def ruler(graph, block):
    """Return the other block that rules the block and is ruled by all others that do, or None."""
    check_graph(graph)
    check_block(graph, block)
    return nearest_of(rulers_of(graph[1]))[block]


def tree(graph):
    """Return the ascending tuple of the pairs of each block that can be come to, but 0, and its ruler."""
    check_graph(graph)
    nearest = nearest_of(rulers_of(graph[1]))
    return tuple([(block, one) for block, one in enumerate(nearest) if one is not None])


def fringe(graph, block):
    """Return the ascending tuple of the blocks at which the ruling of the block ends."""
    check_graph(graph)
    check_block(graph, block)
    return fringes_of(graph[1])[block]


def whole_fringe(graph, blocks):
    """Return the ascending tuple of the blocks in the fringes of the blocks, in those of these, and so on."""
    check_graph(graph)
    many = len(graph[1])
    if not isinstance(blocks, tuple) or not all([is_integer(block) and 0 <= block < many for block in blocks]):
        raise InvalidBlock("the value is not a tuple of numbers of blocks of the graph")
    return whole_fringe_of(fringes_of(graph[1]), blocks)


def must_pass(graph, block):
    """Return the ascending tuple of the blocks that stand on every row from the block to a block with a give."""
    check_graph(graph)
    check_block(graph, block)
    edges = goals_of(graph[1])
    found = come_to((block,), edges)
    gives = [at for at in found if graph[1][at][1][0] == "give"]
    if not gives:
        return ()
    passed = []
    for one in found:
        without = come_to((block,), edges, one)
        if not any([at in without for at in gives]):
            passed.append(one)
    return tuple(passed)
