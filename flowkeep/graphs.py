"""Graphs: programs as blocks of steps, and what is one."""

from flowkeep.errors import InvalidBlock, InvalidGraph, NotPlain, TooMany
from flowkeep.words import is_integer, is_word

MOST_INPUTS = 4
MOST_BLOCKS = 40
MOST_STEPS = 60
CELLS = 4
LONGEST_NAME = 6
LETTERS = "abcdefghijklmnopqrstuvwxyz"
FIGURES = "0123456789"
BARRED = ("given", "block", "ask", "cell", "show", "choose", "go", "pick", "give")

# What stands behind the kind of a step, choices left out; a first part that is a name is given.
STEP_PARTS = {
    "set": ("name", "word"),
    "copy": ("name", "name"),
    "add": ("name", "name", "name"),
    "sub": ("name", "name", "name"),
    "mul": ("name", "name", "name"),
    "times": ("name", "name", "word"),
    "div": ("name", "name", "name"),
    "less": ("name", "name", "name"),
    "ask": ("name",),
    "read": ("name", "cell"),
    "write": ("cell", "name"),
    "show": ("name",),
}
END_PARTS = {
    "go": ("block",),
    "pick": ("name", "block", "block"),
    "give": ("name",),
}


def is_name(value):
    """Return whether the value is a name."""
    if not isinstance(value, str) or not 1 <= len(value) <= LONGEST_NAME or value in BARRED:
        return False
    return value[0] in LETTERS and all([sign in LETTERS or sign in FIGURES for sign in value])


def _is_below(value, bound):
    """Return whether the value is an integer from 0 on that is less than the bound."""
    return is_integer(value) and 0 <= value < bound


def _is_part(value, part, blocks):
    """Return whether the value is a part of a step or an end in a graph of so many blocks."""
    if part == "name":
        return is_name(value)
    if part == "word":
        return is_word(value)
    return _is_below(value, CELLS if part == "cell" else blocks)


def _has_kind(value):
    """Return whether the value is a tuple that begins with a string."""
    return isinstance(value, tuple) and len(value) > 0 and isinstance(value[0], str)


def _has_parts(value, parts, blocks):
    """Return whether there are such parts, and just they stand behind the kind of the value."""
    if parts is None or len(value) != len(parts) + 1:
        return False
    return all([_is_part(one, part, blocks) for one, part in zip(value[1:], parts)])


def _is_end(value, blocks):
    """Return whether the value is an end in a graph of so many blocks."""
    return _has_kind(value) and _has_parts(value, END_PARTS.get(value[0]), blocks)


def chooses(step):
    """Return whether the step is a choice."""
    return step[0] == "choose"


def _is_full_choice(value, comers):
    """Return whether the value is a choice with a pair for each of the comers."""
    if len(value) != 3 or not is_name(value[1]) or not isinstance(value[2], tuple):
        return False
    pairs = value[2]
    if not all([isinstance(pair, tuple) and len(pair) == 2 for pair in pairs]):
        return False
    if not all([is_integer(block) and is_name(name) for block, name in pairs]):
        return False
    return tuple([block for block, _ in pairs]) == comers


def _are_steps(steps, comers, blocks):
    """Return whether the steps are those of a block with these comers; None are those of block 0."""
    if not all([_has_kind(step) for step in steps]):
        return False
    many = len([step for step in steps if chooses(step)])
    # A choice behind another step is not among the first ones, and has no parts of other steps.
    if not all([_is_full_choice(step, comers) for step in steps[:many]]):
        return False
    if not all([_has_parts(step, STEP_PARTS.get(step[0]), blocks) for step in steps[many:]]):
        return False
    return len(set([step[1] for step in steps[:many]])) == many


def _are_inputs(value):
    """Return whether the value is a tuple of at most 4 unlike names."""
    if not isinstance(value, tuple) or len(value) > MOST_INPUTS or not all([is_name(name) for name in value]):
        return False
    return len(set(value)) == len(value)


def _is_frame(value, blocks):
    """Return whether the value is a block in a graph of so many, as far as its end tells."""
    if not isinstance(value, tuple) or len(value) != 2 or not isinstance(value[0], tuple):
        return False
    return len(value[0]) <= MOST_STEPS and _is_end(value[1], blocks)


def goals(end):
    """Return the ascending tuple of the blocks to which an end goes on."""
    if end[0] == "go":
        return (end[1],)
    # Behind its name a pick has two blocks, and a give none.
    return tuple(sorted(set(end[2:])))


def comers_of(blocks):
    """Return the list of the ascending tuples of the comers of each block."""
    found = [[] for _ in blocks]
    for at, block in enumerate(blocks):
        for goal in goals(block[1]):
            found[goal].append(at)
    return [tuple(comers) for comers in found]


def is_graph(value):
    """Return whether the value is a graph."""
    if not isinstance(value, tuple) or len(value) != 2 or not _are_inputs(value[0]):
        return False
    blocks = value[1]
    if not isinstance(blocks, tuple) or not 1 <= len(blocks) <= MOST_BLOCKS:
        return False
    if not all([_is_frame(block, len(blocks)) for block in blocks]):
        return False
    comers = [None] + comers_of(blocks)[1:]
    return all([_are_steps(block[0], comers[at], len(blocks)) for at, block in enumerate(blocks)])


def _has_choices(blocks):
    """Return whether a choice stands in the blocks."""
    return any([chooses(step) for steps, _ in blocks for step in steps])


def is_plain(value):
    """Return whether the value is a graph without choices."""
    return is_graph(value) and not _has_choices(value[1])


def check_graph(graph):
    """Raise InvalidGraph if the value is not a graph."""
    if not is_graph(graph):
        raise InvalidGraph("the value is not a graph")


def check_plain(graph):
    """Raise InvalidGraph if the value is not a graph, and NotPlain if it has choices."""
    check_graph(graph)
    if _has_choices(graph[1]):
        raise NotPlain("the graph must have no choices")


def check_block(graph, block):
    """Raise InvalidBlock if the value is not the number of a block of the graph."""
    if not _is_below(block, len(graph[1])):
        raise InvalidBlock("the value is not the number of a block of the graph")


def check_size(blocks):
    """Raise TooMany if there are more blocks, or more steps in one of them, than a graph may have."""
    if len(blocks) > MOST_BLOCKS or any([len(steps) > MOST_STEPS for steps, _ in blocks]):
        raise TooMany("a graph has at most 40 blocks, and a block at most 60 steps")


def given(step):
    """Return the name that the step gives, or None."""
    return None if step[0] in ("write", "show") else step[1]


def reads(step):
    """Return the list of the names that the step reads."""
    if chooses(step):
        return [name for _, name in step[2]]
    named = [one for one, part in zip(step[1:], STEP_PARTS[step[0]]) if part == "name"]
    return named if given(step) is None else named[1:]


def end_reads(end):
    """Return the list of the names that the end reads."""
    return [] if end[0] == "go" else [end[1]]


def reread(step, named):
    """Return the step with other read names, which a dict tells by the old ones."""
    if chooses(step):
        return (step[0], step[1], tuple([(comer, named[name]) for comer, name in step[2]]))
    ahead = 1 if given(step) is None else 2
    parts = STEP_PARTS[step[0]][ahead - 1:]
    return step[:ahead] + tuple([named[one] if part == "name" else one for one, part in zip(step[ahead:], parts)])


def end_reread(end, named):
    """Return the end with another read name, which a dict tells by the old one."""
    return end if end[0] == "go" else (end[0], named[end[1]]) + end[2:]


def with_goals(end, numbers):
    """Return the end with other goals, which a dict tells by the old ones."""
    if end[0] == "go":
        return ("go", numbers[end[1]])
    return end[:2] + tuple([numbers[goal] for goal in end[2:]])


def step_names(step):
    """Return the list of the names that the step gives and reads."""
    if given(step) is None:
        return reads(step)
    return [given(step)] + reads(step)


def names_of(graph):
    """Return the ascending tuple of all names of what is known to be a graph."""
    inputs, blocks = graph
    found = list(inputs)
    for steps, end in blocks:
        for step in steps:
            found.extend(step_names(step))
        found.extend(end_reads(end))
    return tuple(sorted(set(found)))


def names(graph):
    """Return the ascending tuple of all names that stand in the graph."""
    check_graph(graph)
    return names_of(graph)


def count_steps(graph):
    """Return how many steps the graph has, without ends."""
    check_graph(graph)
    return sum([len(steps) for steps, _ in graph[1]])
