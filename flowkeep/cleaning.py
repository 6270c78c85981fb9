"""Graphs without what is not needed: steps, reads of copies, and goes."""

from flowkeep.errors import NotSingle
from flowkeep.graphs import (
    check_graph, check_plain, check_size, chooses, comers_of, end_reads, end_reread, is_plain, reads, reread,
    with_goals)
from flowkeep.shaping import trimmed_blocks
from flowkeep.single import check_single, givers_of, is_single

ALWAYS_NEEDED = ("write", "show", "ask")


def _needed_names(graph):
    """Return the dict of True by the names that needed steps and ends of a graph in single form read."""
    blocks = graph[1]
    givers = givers_of(graph)
    waiting = []
    for steps, end in blocks:
        waiting.extend(end_reads(end))
        for step in steps:
            if _is_needed(step, {}, blocks, givers):
                waiting.extend(reads(step))
    found = {}
    while waiting:
        name = waiting.pop()
        if name not in found:
            found[name] = True
            block, place = givers[name]
            if place >= 0:
                waiting.extend(reads(blocks[block][0][place]))
    return found


def _is_needed(step, found, blocks, givers):
    """Return whether the step is needed, if the found names are those that are read."""
    if step[0] in ALWAYS_NEEDED or step[1] in found:
        return True
    if step[0] != "div":
        return False
    block, place = givers[step[3]]
    divisor = blocks[block][0][place] if place >= 0 else None
    return divisor is None or divisor[0] != "set" or divisor[2] == 0


def swept(graph):
    """Return the graph in single form without the steps that are not needed."""
    check_single(graph)
    inputs, blocks = graph
    givers = givers_of(graph)
    found = _needed_names(graph)
    return (inputs, tuple([
        (tuple([step for step in steps if _is_needed(step, found, blocks, givers)]), end) for steps, end in blocks]))


def _only_name(step):
    """Return the one name that a copy, or a choice but for its own name, reads; None for others."""
    if step[0] != "copy" and not chooses(step):
        return None
    others = sorted(set([name for name in reads(step) if name != step[1]]))
    return others[0] if len(others) == 1 else None


def _with_originals(blocks, originals):
    """Return the blocks with the original names, which a dict tells by all names, in the place of those read."""
    return tuple([
        (tuple([reread(step, originals) for step in steps]), end_reread(end, originals)) for steps, end in blocks])


def _originals(blocks, names):
    """Return the dict, by all names, of the names that stand for them once."""
    found = {name: name for name in names}
    for steps, _ in blocks:
        for step in steps:
            if _only_name(step) is not None:
                found[step[1]] = _only_name(step)
    # Each name is followed to the end; no row of names goes round, since each one is given ahead of the next.
    for name in names:
        while found[found[name]] != found[name]:
            found[name] = found[found[name]]
    return found


def uncopied(graph):
    """Return the graph in single form with no name read that a copy gives, or a choice of one name."""
    check_single(graph)
    names = list(givers_of(graph))
    blocks = graph[1]
    former = None
    while former != blocks:
        former = blocks
        blocks = _with_originals(former, _originals(former, names))
    return (graph[0], blocks)


def _rows_to_join(blocks):
    """Return the list of the rows of blocks, all of which can be come to, that are to be joined."""
    comers = comers_of(blocks)
    next_of = {}
    for at, block in enumerate(blocks):
        kind, goal = block[1][:2]
        if kind == "go" and goal != 0 and comers[goal] == (at,):
            next_of[at] = goal
    behind = {goal: True for goal in next_of.values()}
    rows = []
    for at in range(len(blocks)):
        if at not in behind:
            row = [at]
            while row[-1] in next_of:
                row.append(next_of[row[-1]])
            rows.append(row)
    return rows


def _with_joined_comers(step, numbers):
    """Return the step, of a choice with the new numbers of its comers, which a dict tells."""
    if not chooses(step):
        return step
    return (step[0], step[1], tuple(sorted([(numbers[comer], name) for comer, name in step[2]])))


def _joined_blocks(blocks):
    """Return the tuple of the blocks, of which all can be come to, joined and numbered anew."""
    rows = _rows_to_join(blocks)
    first = {row[0]: at for at, row in enumerate(rows)}
    last = {row[-1]: at for at, row in enumerate(rows)}
    found = []
    for row in rows:
        steps = [_with_joined_comers(step, last) for step in blocks[row[0]][0]]
        for at in row[1:]:
            # The names of these choices are given ahead of the block, so that none of them is read by another one.
            steps.extend([("copy", step[1], step[2][0][1]) if chooses(step) else step for step in blocks[at][0]])
        found.append((tuple(steps), with_goals(blocks[row[-1]][1], first)))
    return tuple(found)


def joined(graph):
    """Return a graph with the same meaning in which no block goes on to one of which it is the only comer."""
    check_graph(graph)
    if not is_plain(graph) and not is_single(graph):
        raise NotSingle("a graph with choices must be in single form")
    blocks = _joined_blocks(trimmed_blocks(graph[1]))
    check_size(blocks)
    return (graph[0], blocks)


def _landing(blocks, block):
    """Return to which block goes lead over blocks without steps: the first other one, or one of a ring of these."""
    passed = {}
    while block not in passed and not blocks[block][0] and blocks[block][1][0] == "go":
        passed[block] = True
        block = blocks[block][1][1]
    return block


def jumped(graph):
    """Return a graph with the same meaning, with no ways over blocks without steps that end with a go."""
    check_plain(graph)
    inputs, blocks = graph
    landings = {block: _landing(blocks, block) for block in range(len(blocks))}
    return (inputs, trimmed_blocks(tuple([(steps, with_goals(end, landings)) for steps, end in blocks])))
