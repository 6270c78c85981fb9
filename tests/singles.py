"""Graphs in single form made at random, and whether two graphs have the same meaning, as far as drawn runs tell."""

from tests.programs import told_run
from tests.slow import rulers_left_out


def random_goals(chance, many):
    """Return rows of goals, such that all blocks can be come to, and none goes on to block 0."""
    rows = [[] for _ in range(many)]
    for at in range(1, many):
        row = chance.choice([row for row in rows[:at] if len(row) < 2])
        row.append(at)
    for row in rows:
        while many > 1 and len(row) < 2 and chance.randrange(2):
            row.append(chance.randrange(1, many))
    # Blocks other than 0 get other numbers.
    numbers = [0] + chance.sample(range(1, many), many - 1)
    found = [None] * many
    for at, row in enumerate(rows):
        found[numbers[at]] = [numbers[goal] for goal in row]
    return found


def random_single(chance, most_blocks=6, most_steps=5, kinds=None):
    """Return a graph in single form with choices of all sorts."""
    kinds = kinds or ("set", "copy", "add", "sub", "mul", "times", "div", "less", "ask", "read", "write", "show")
    goals = random_goals(chance, chance.randrange(1, most_blocks + 1))
    many = len(goals)
    pool = [f"n{at}" for at in range(100)]
    chance.shuffle(pool)
    inputs = [pool.pop() for _ in range(chance.randrange(4))]
    plan, given = [], []
    for at in range(many):
        choices = [pool.pop() for _ in range(chance.randrange(4) if at else 0)]
        others = [chance.choice(kinds) for _ in range(chance.randrange(most_steps + 1))]
        if at == 0 and not inputs:
            others = ["set"] + others
        others = [(kind, None if kind in ("write", "show") else pool.pop()) for kind in others]
        plan.append((choices, others))
        given.append(choices + [name for _, name in others if name])
    shape = ((), tuple(((), ("pick", "x", *row) if len(row) == 2 else ("go", *row) if row else ("give", "x")) for row in goals))
    ruled = rulers_left_out(shape)
    blocks = []
    for at, (choices, others) in enumerate(plan):
        ahead = inputs + [name for one in sorted(ruled[at] - {at}) for name in given[one]]
        comers = [comer for comer in range(many) if at in goals[comer]]
        steps = []
        for name in choices:
            pairs = []
            for comer in comers:
                known = inputs + [one for ruler in sorted(ruled[comer]) for one in given[ruler]]
                pairs.append((comer, chance.choice(known)))
            steps.append(("choose", name, tuple(pairs)))
        ahead += choices
        for kind, name in others:
            steps.append(random_reading(chance, kind, name, ahead))
            ahead += [name] if name else []
        row = goals[at]
        name = chance.choice(ahead)
        if len(row) == 1 and chance.randrange(4) == 0:
            row = row * 2
        blocks.append((tuple(steps), ("pick", name, *row) if len(row) == 2 else ("go", *row) if row else ("give", name)))
    return (tuple(inputs), tuple(blocks))


def random_reading(chance, kind, name, known):
    """Return a step of the kind that reads some of the known names."""
    word = chance.choice((0, 1, 2, 65535))
    if kind == "set":
        return (kind, name, word)
    if kind == "write":
        return (kind, chance.randrange(2), chance.choice(known))
    if kind == "show":
        return (kind, chance.choice(known))
    if kind == "ask":
        return (kind, name)
    if kind == "read":
        return (kind, name, chance.randrange(2))
    if kind == "copy":
        return (kind, name, chance.choice(known))
    if kind == "times":
        return (kind, name, chance.choice(known), word)
    return (kind, name, chance.choice(known), chance.choice(known))


def drawn(chance, graph):
    """Return inputs and answers."""
    words = (0, 0, 1, 1, 2, 3, 65535, chance.randrange(65536))
    values = tuple(chance.choice(words) for _ in graph[0])
    return values, tuple(chance.choice(words) for _ in range(chance.randrange(6)))


def check_meaning(test, old, new, chance, times=6, most=300):
    """Check, as far as drawn runs tell, that both graphs have the same meaning."""
    test.assertEqual(len(old[0]), len(new[0]))
    for _ in range(times):
        values, answers = drawn(chance, old)
        shown, end = told_run(old, values, answers, most)[:2]
        its, other = told_run(new, values, answers, most)[:2]
        if end == ("going",) and other != ("going",):
            shown, end = told_run(old, values, answers, 20 * most)[:2]
        if other == ("going",) and end != ("going",):
            its, other = told_run(new, values, answers, 20 * most)[:2]
        test.assertEqual(end, other, (old, new, values, answers))
        if end != ("going",):
            test.assertEqual(shown, its, (old, new, values, answers))
        else:
            least = min(len(shown), len(its))
            test.assertEqual(shown[:least], its[:least], (old, new, values, answers))


def given_values(graph, values, answers, most):
    """Yield the block, the name and the word of each step that a run of at most so many steps gives a name by."""
    named = dict(zip(graph[0], values))
    cells, waiting = [0] * 4, list(answers)
    block, came = 0, None
    while most > 0:
        steps, end = graph[1][block]
        chosen = {step[1]: named[dict(step[2])[came]] for step in steps if step[0] == "choose"}
        named.update(chosen)
        for name, word in chosen.items():
            yield block, name, word
        for step in steps[len(chosen):]:
            get = [named[part] if isinstance(part, str) and part in named else part for part in step]
            kind = step[0]
            if kind == "div" and get[3] == 0:
                return
            if kind == "write":
                cells[step[1]] = get[2]
            elif kind != "show":
                named[step[1]] = {
                    "set": lambda: get[2], "copy": lambda: get[2], "add": lambda: get[2] + get[3], "sub": lambda: get[2] - get[3],
                    "mul": lambda: get[2] * get[3], "times": lambda: get[2] * get[3], "div": lambda: get[2] // get[3],
                    "less": lambda: int(get[2] < get[3]), "ask": lambda: waiting.pop(0) if waiting else 0,
                    "read": lambda: cells[step[2]],
                }[kind]() % 65536
                yield block, step[1], named[step[1]]
        if end[0] == "give":
            return
        most -= len(steps) + 1
        came = block
        block = end[1] if end[0] == "go" else end[2] if named[end[1]] else end[3]
