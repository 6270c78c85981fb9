"""Graphs that several tests use, and graphs made at random."""

L_TEXT = (
    "given n;block 0;i = 0;k = 1;go 1;block 1;c = i < n;pick c 2 3;block 2;s = s + n;i = i + k;go 1;"
    "block 3;show s;give i")
L = (("n",), (
    ((("set", "i", 0), ("set", "k", 1)), ("go", 1)),
    ((("less", "c", "i", "n"),), ("pick", "c", 2, 3)),
    ((("add", "s", "s", "n"), ("add", "i", "i", "k")), ("go", 1)),
    ((("show", "s"),), ("give", "i")),
))
D_TEXT = (
    "given a b;block 0;pick a 1 2;block 1;x = a + b;go 3;block 2;y = a + b;x = y;go 3;"
    "block 3;z = a + b;show z;give x")
D = (("a", "b"), (
    ((), ("pick", "a", 1, 2)),
    ((("add", "x", "a", "b"),), ("go", 3)),
    ((("add", "y", "a", "b"), ("copy", "x", "y")), ("go", 3)),
    ((("add", "z", "a", "b"), ("show", "z")), ("give", "x")),
))
K_TEXT = (
    "given;block 0;i = 0;n = 6;k = 2;go 1;block 1;c = i < n;pick c 2 3;block 2;i = i + k;go 1;block 3;give i")
K = ((), (
    ((("set", "i", 0), ("set", "n", 6), ("set", "k", 2)), ("go", 1)),
    ((("less", "c", "i", "n"),), ("pick", "c", 2, 3)),
    ((("add", "i", "i", "k"),), ("go", 1)),
    ((), ("give", "i")),
))
# Every kind of step and end, and choices with several comers, one comer, and none.
ALL_TEXT = (
    "given a b;block 0;x = 7;y = x;z = x + y;z = z - a;z = z * b;z = z * 3;c = a < b;q = ask;r = cell 3;cell 0 = x;"
    "show z;pick c 1 2;block 1;u = choose 0 x 1 u 2 y;w = choose 0 y 1 w 2 u;show u;pick u 3 1;"
    "block 2;m = choose 0 a;d = m / b;go 1;block 3;v = choose 1 u;give v;block 4;n = choose;give n")
ALL = (("a", "b"), (
    ((("set", "x", 7), ("copy", "y", "x"), ("add", "z", "x", "y"), ("sub", "z", "z", "a"), ("mul", "z", "z", "b"),
      ("times", "z", "z", 3), ("less", "c", "a", "b"), ("ask", "q"), ("read", "r", 3), ("write", 0, "x"),
      ("show", "z")), ("pick", "c", 1, 2)),
    ((("choose", "u", ((0, "x"), (1, "u"), (2, "y"))), ("choose", "w", ((0, "y"), (1, "w"), (2, "u"))), ("show", "u")),
     ("pick", "u", 3, 1)),
    ((("choose", "m", ((0, "a"),)), ("div", "d", "m", "b")), ("go", 1)),
    ((("choose", "v", ((1, "u"),)),), ("give", "v")),
    ((("choose", "n", ()),), ("give", "n")),
))



def shaped(*rows):
    """Return a graph without steps whose blocks have these goals, at most two each."""
    ends = {0: lambda row: ("give", "x"), 1: lambda row: ("go", *row), 2: lambda row: ("pick", "x", *row)}
    return ((), tuple(((), ends[len(row)](row)) for row in rows))


ONE = shaped(())
ROUND = shaped((0, 0))
# Block 0 has comers, block 2 goes to itself, block 5 can't be come to and goes on to block 1 and itself.
ODD = shaped((3, 1), (2,), (2, 4), (1, 1), (0, 6), (1, 5), ())
# Two blocks go on to each other, and both can be come to first.
TANGLE = shaped((1, 2), (2, 3), (1, 3), ())
# Three loops, each one in the next one; block 3 goes to itself, and two back edges lead to block 1.
NESTED = shaped((1,), (2, 7), (3, 5), (3, 4), (2,), (1, 6), (1,), ())

NAMES = ("a", "b", "c", "d", "e1", "longer")


def goals_of(end):
    """Return the set of the goals of an end."""
    return {goal for goal in end[1:] if isinstance(goal, int)}


def random_step(chance):
    def name():
        return chance.choice(NAMES)
    word = chance.choice((0, 1, 2, 3, 7, 255, 32768, 65535, chance.randrange(65536)))
    kind = chance.choice((
        "set", "copy", "add", "sub", "mul", "times", "div", "less", "ask", "read", "write", "show"))
    if kind == "set":
        return (kind, name(), word)
    if kind == "copy":
        return (kind, name(), name())
    if kind == "times":
        return (kind, name(), name(), word)
    if kind == "read":
        return (kind, name(), chance.randrange(4))
    if kind == "write":
        return (kind, chance.randrange(4), name())
    if kind in ("ask", "show"):
        return (kind, name())
    return (kind, name(), name(), name())


def random_graph(chance, choices=True, most_blocks=6, most_steps=5):
    """Return a graph made at random, with choices or without."""
    many = chance.randrange(1, most_blocks + 1)
    ends = []
    for _ in range(many):
        kind = chance.choice(("go", "pick", "pick", "give"))
        block = chance.randrange(many)
        other = chance.randrange(many)
        name = chance.choice(NAMES)
        ends.append({"go": ("go", block), "pick": ("pick", name, block, other), "give": ("give", name)}[kind])
    blocks = []
    for at in range(many):
        steps = [random_step(chance) for _ in range(chance.randrange(most_steps + 1))]
        if choices and at > 0:
            comers = [place for place, end in enumerate(ends) if at in goals_of(end)]
            given = chance.sample(NAMES, chance.randrange(4))
            steps = [
                ("choose", name, tuple((comer, chance.choice(NAMES)) for comer in comers)) for name in given] + steps
        blocks.append((tuple(steps), ends[at]))
    return (tuple(chance.sample(NAMES, chance.randrange(5))), tuple(blocks))


def told_run(graph, values, answers, most):
    """Return what a run shows, its end, the blocks that it enters, and its count, straight as the document says."""
    inputs, blocks = graph
    named = dict(zip(inputs, values))
    cells = [0, 0, 0, 0]
    waiting = list(answers)
    shown = []
    block, came, entered, count = 0, None, [0], 0
    while True:
        steps, end = blocks[block]
        choices = [step for step in steps if step[0] == "choose"]
        if choices:
            if count >= most:
                return tuple(shown), ("going",), tuple(entered), count
            new = {step[1]: named.get(dict(step[2])[came], 0) for step in choices}
            named.update(new)
            count += len(choices)
        for step in steps[len(choices):]:
            if count >= most:
                return tuple(shown), ("going",), tuple(entered), count
            count += 1
            kind = step[0]
            get = [named.get(part, 0) if isinstance(part, str) else part for part in step]
            if kind == "show":
                shown.append(get[1])
            elif kind == "write":
                cells[step[1]] = get[2]
            elif kind == "div" and get[3] == 0:
                return tuple(shown), ("stop",), tuple(entered), count
            else:
                named[step[1]] = {
                    "set": lambda: get[2], "copy": lambda: get[2], "add": lambda: (get[2] + get[3]) & 0xFFFF,
                    "sub": lambda: (get[2] - get[3]) & 0xFFFF, "mul": lambda: (get[2] * get[3]) & 0xFFFF,
                    "times": lambda: (get[2] * get[3]) & 0xFFFF, "div": lambda: get[2] // get[3],
                    "less": lambda: int(get[2] < get[3]), "ask": lambda: waiting.pop(0) if waiting else 0,
                    "read": lambda: cells[step[2]],
                }[kind]()
        if count >= most:
            return tuple(shown), ("going",), tuple(entered), count
        count += 1
        if end[0] == "give":
            return tuple(shown), ("give", named.get(end[1], 0)), tuple(entered), count
        came = block
        if end[0] == "go":
            block = end[1]
        else:
            block = end[2] if named.get(end[1], 0) else end[3]
        entered.append(block)
