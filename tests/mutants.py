"""Graphs that differ a little from others, and whether two graphs do the same, as far as drawn runs tell."""

from flowkeep.graphs import is_graph, names
from tests.programs import told_run
from tests.singles import drawn


def changed(chance, graph):
    """Return a graph that differs from the graph in one place, or None if none was found."""
    known = names(graph)
    for _ in range(20):
        blocks = [[list(steps), end] for steps, end in graph[1]]
        block = chance.choice(blocks)
        if known:
            change(chance, block, known)
        found = (graph[0], tuple((tuple(steps), end) for steps, end in blocks))
        if found != graph and is_graph(found):
            return found
    return None


def change(chance, block, known):
    """Change one step or the end of the block."""
    steps, end = block
    others = [at for at, step in enumerate(steps) if step[0] != "choose"]
    kind = chance.randrange(5)
    if kind == 0 and steps:
        at = chance.randrange(len(steps))
        steps[at] = other_step(chance, steps[at], known)
    elif kind == 1 and others:
        del steps[chance.choice(others)]
    elif kind == 2 and len(others) > 1:
        at = chance.choice(others[1:])
        steps[at - 1], steps[at] = steps[at], steps[at - 1]
    elif kind == 3 and end[0] == "pick":
        block[1] = end[:2] + (end[3], end[2])
    elif end[0] != "go":
        block[1] = (end[0], chance.choice(known)) + end[2:]


def other_step(chance, step, known):
    """Return the step with another part."""
    if step[0] == "choose":
        pairs = list(step[2])
        at = chance.randrange(len(pairs))
        pairs[at] = (pairs[at][0], chance.choice(known))
        return (step[0], step[1], tuple(pairs))
    parts = list(step)
    at = chance.randrange(1, len(parts))
    parts[at] = chance.choice(known) if isinstance(parts[at], str) else (parts[at] + chance.randrange(1, 4)) % 4
    return tuple(parts)


def ran_alike(one, other):
    """Return whether what two runs show, and their ends, may come of the same meaning."""
    (shown, end), (its, its_end) = one, other
    if end != ("going",) and its_end != ("going",):
        return (shown, end) == (its, its_end)
    if end != its_end:
        return False
    least = min(len(shown), len(its))
    return shown[:least] == its[:least]


def run_alike(chance, old, new, times=20, most=200):
    """Return whether some drawn runs of two graphs are alike."""
    if len(old[0]) != len(new[0]):
        return False
    for _ in range(times):
        values, answers = drawn(chance, old)
        runs = [told_run(graph, values, answers, most)[:2] for graph in (old, new)]
        if runs[0][1] != runs[1][1] and ("going",) in (runs[0][1], runs[1][1]):
            runs = [told_run(graph, values, answers, 40 * most)[:2] for graph in (old, new)]
        if not ran_alike(*runs):
            return False
    return True
