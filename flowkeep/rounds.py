"""Counted loops of graphs in single form, and how often they go round."""

from flowkeep.constants import constants_of
from flowkeep.errors import NotCounted
from flowkeep.graphs import check_block, given, goals
from flowkeep.loops import check_head, loops_of
from flowkeep.single import check_single, givers_of
from flowkeep.words import SIZE


def _is_left_at_its_head(blocks, head, inner):
    """Return whether the loop is left by a pick of its head alone, whose other goal lies in it."""
    for block in inner:
        end = blocks[block][1]
        outside = [goal for goal in goals(end) if goal not in inner]
        if end[0] == "give" or (outside and block != head):
            return False
    end = blocks[head][1]
    return end[0] == "pick" and (end[2] in inner) != (end[3] in inner)


def _step_giving(steps, name, kind):
    """Return the one of the steps that is of the kind and gives the name, or None."""
    for step in steps:
        if step[0] == kind and given(step) == name:
            return step
    return None


def _names_from(choice, inner):
    """Return the pair of the names for a block of the loop and for one outside, or None if there are no such two."""
    inside = [name for comer, name in choice[2] if comer in inner]
    outside = [name for comer, name in choice[2] if comer not in inner]
    return (inside[0], outside[0]) if len(inside) == len(outside) == 1 else None


def _other_name(step, name):
    """Return what an add adds to the name, or None if the step is no add of the name and another one."""
    if step[0] != "add" or name not in step[2:] or step[2] == step[3]:
        return None
    return step[3] if step[2] == name else step[2]


def _added_name(graph, inner, name, count):
    """Return what a step of the loop adds to the count to give the name, or None."""
    block, place = givers_of(graph)[name]
    return _other_name(graph[1][block][0][place], count) if block in inner else None


def _count_of(graph, head, inner):
    """Return the tuple of the words that a counted loop begins with, adds, and compares with, or None."""
    steps, end = graph[1][head]
    if not _is_left_at_its_head(graph[1], head, inner):
        return None
    less = _step_giving(steps, end[1], "less")
    choice = None if less is None else _step_giving(steps, less[2], "choose")
    found = None if choice is None else _names_from(choice, inner)
    if found is None:
        return None
    known = constants_of(graph)
    told = (found[1], _added_name(graph, inner, found[0], less[2]), less[3])
    return tuple([known[name] for name in told]) if all([name in known for name in told]) else None


def _loop_of(graph, head):
    """Return the ascending tuple of the loop of the head, if it and the graph are right."""
    check_single(graph)
    check_block(graph, head)
    looped = loops_of(graph[1])
    check_head(looped, head)
    return looped[head]


def is_counted(graph, head):
    """Return whether the loop of the head is counted."""
    return _count_of(graph, head, _loop_of(graph, head)) is not None


def rounds(graph, head):
    """Return how often the pick of a counted loop goes on in the loop, or None if it always does."""
    inner = _loop_of(graph, head)
    count = _count_of(graph, head, inner)
    if count is None:
        raise NotCounted("the loop must be counted")
    first, more, bound = count
    stays_if_less = graph[1][head][1][2] in inner
    many = 0
    at = first
    while (at < bound) == stays_if_less:
        at = (at + more) % SIZE
        many += 1
        if at == first:
            return None
    return many
