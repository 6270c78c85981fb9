"""Second, slower reckonings, straight as the document tells things, for small graphs."""

from tests.programs import goals_of


def edges_of(graph):
    """Return the ascending lists of the goals of each block."""
    return [sorted(goals_of(end)) for _, end in graph[1]]


def rows_from(graph, start, most):
    """Return all rows of at most so many blocks, each but the first one a goal of the one before."""
    edges = edges_of(graph)
    found, level = [], [(start,)]
    for _ in range(most):
        found += level
        level = [row + (goal,) for row in level for goal in edges[row[-1]]]
    return found


def reached(graph, starts, left_out=()):
    """Return the set of the blocks that can be come to from the starts, some blocks left out."""
    edges = edges_of(graph)
    found = set(starts) - set(left_out)
    while True:
        more = {goal for block in found for goal in edges[block]} - set(left_out) - found
        if not more:
            return found
        found |= more


def told_rulers(graph):
    """Return the sets of the blocks that stand on all ways to each block; a way need not be longer than the graph."""
    found = [None] * len(graph[1])
    for way in rows_from(graph, 0, len(graph[1])):
        found[way[-1]] = set(way) if found[way[-1]] is None else found[way[-1]] & set(way)
    return [rulers or set() for rulers in found]


def rulers_left_out(graph):
    """Return the same, by leaving out each block in turn."""
    whole = reached(graph, [0])
    found = [set() for _ in graph[1]]
    for block in whole:
        for other in whole - reached(graph, [0], [block]):
            found[other].add(block)
    return found


def told_fringe(graph, ruled, block):
    """Return the fringe of the block, as the document tells it."""
    whole = reached(graph, [0])
    found = []
    for goal in range(len(graph[1])):
        comers = [comer for comer, (_, end) in enumerate(graph[1]) if goal in goals_of(end) and comer in whole]
        if any(block in ruled[comer] for comer in comers) and (goal == block or block not in ruled[goal]):
            found.append(goal)
    return tuple(found)


def step_reads(step):
    """Return the names that a step other than a choice reads."""
    kind = step[0]
    if kind == "show":
        return [step[1]]
    if kind == "write":
        return [step[2]]
    return [part for part in step[2:] if isinstance(part, str)]


def step_gives(step):
    return None if step[0] in ("show", "write") else step[1]


def end_reads(end):
    return [part for part in end[1:] if isinstance(part, str)]


def told_walk(graph, way, values):
    """Return the state behind a free walk, and how many unknown values it needed."""
    inputs, blocks = graph
    left = list(values)
    named = {name: left.pop(0) for name in inputs}
    cells = [0, 0, 0, 0]
    came = None
    for at, block in enumerate(way):
        steps = blocks[block][0]
        choices = [step for step in steps if step[0] == "choose"]
        named.update({step[1]: named.get(dict(step[2])[came], 0) for step in choices})
        if at == len(way) - 1:
            break
        for step in steps[len(choices):]:
            kind = step[0]
            get = [named.get(part, 0) if isinstance(part, str) else part for part in step]
            if kind in ("mul", "div", "less", "ask"):
                named[step[1]] = left.pop(0)
            elif kind == "write":
                cells[step[1]] = get[2]
            elif kind == "read":
                named[step[1]] = cells[step[2]]
            elif kind in ("set", "copy"):
                named[step[1]] = get[2]
            elif kind == "add":
                named[step[1]] = (get[2] + get[3]) % 65536
            elif kind == "sub":
                named[step[1]] = (get[2] - get[3]) % 65536
            elif kind == "times":
                named[step[1]] = get[2] * get[3] % 65536
        came = block
    return (1,) + tuple(named.get(name, 0) for name in all_names(graph)) + tuple(cells), len(values) - len(left)


def all_names(graph):
    """Return the sorted list of the names of a graph."""
    found = set(graph[0])
    for steps, end in graph[1]:
        for step in steps:
            if step[0] == "choose":
                found |= {step[1]} | {name for _, name in step[2]}
            else:
                found |= {step_gives(step), *step_reads(step)} - {None}
        found |= set(end_reads(end))
    return sorted(found)


def told_single(graph):
    """Return whether a graph is in single form, by going along all ways of at most twice its blocks."""
    inputs, blocks = graph
    gives = list(inputs) + [step_gives(step) for steps, _ in blocks for step in steps if step_gives(step)]
    if len(gives) != len(set(gives)) or len(reached(graph, [0])) < len(blocks):
        return False
    if any(0 in goals_of(end) for _, end in blocks):
        return False
    for way in rows_from(graph, 0, 2 * len(blocks)):
        given = set(inputs)
        came = None
        for block in way:
            steps, end = blocks[block]
            choices = [step for step in steps if step[0] == "choose"]
            if any(dict(step[2])[came] not in given for step in choices):
                return False
            given |= {step[1] for step in choices}
            for step in steps[len(choices):]:
                if not set(step_reads(step)) <= given:
                    return False
                given |= {step_gives(step)} - {None}
            if not set(end_reads(end)) <= given:
                return False
            came = block
    return True


def told_live(graph, block):
    """Return the names that are read on some row from the block on ahead of being given in it."""
    found = set()
    for row in rows_from(graph, block, len(graph[1]) + 1):
        given = set()
        for at in row:
            steps, end = graph[1][at]
            for step in steps:
                found |= set(step_reads(step)) - given
                given |= {step_gives(step)}
            found |= set(end_reads(end)) - given
    return tuple(sorted(found))


def told_reaching(graph, block):
    """Return the steps whose names reach the block on some way of at most twice as many blocks as there are."""
    found = set()
    for way in rows_from(graph, 0, 2 * len(graph[1])):
        if way[-1] == block:
            last = {}
            for at in way[:-1]:
                for place, step in enumerate(graph[1][at][0]):
                    last[step_gives(step)] = (at, place)
            last.pop(None, None)
            found |= set(last.values())
    return tuple(sorted(found))


def told_expression(step):
    return (step[0],) + step[2:] if step[0] in ("add", "sub", "mul", "less", "times") else None


def in_text_sequence(expressions):
    return tuple(sorted(expressions, key=lambda one: " ".join(str(part) for part in one)))


def told_at_hand(graph, block):
    """Return the expressions that are at hand on all ways of at most twice as many blocks as there are."""
    found = None
    for way in rows_from(graph, 0, 2 * len(graph[1])):
        if way[-1] == block:
            hand = set()
            for at in way[:-1]:
                for step in graph[1][at][0]:
                    hand |= {told_expression(step)} - {None}
                    hand = {one for one in hand if step_gives(step) not in one[1:]}
            found = hand if found is None else found & hand
    return in_text_sequence(found or ())


def told_needed(graph, block):
    """Return the expressions that are reckoned ahead of a change on all rows; a longer row goes round."""
    found = None
    many = len(graph[1])
    for row in rows_from(graph, block, many + 1):
        if len(row) == many + 1 or graph[1][row[-1]][1][0] == "give":
            need, given = set(), set()
            for at in row:
                for step in graph[1][at][0]:
                    one = told_expression(step)
                    if one and not given & set(one[1:]):
                        need.add(one)
                    given |= {step_gives(step)} - {None}
            found = need if found is None else found & need
    return in_text_sequence(found or ())
