"""Plain graphs made at random, all of whose blocks can be come to."""

from tests.programs import NAMES
from tests.singles import random_goals

KINDS = ("set", "copy", "add", "sub", "mul", "times", "div", "less", "ask", "read", "write", "show")
EXPRESSIONS = ("add", "sub", "mul", "less", "times")


def random_plain(chance, most_blocks=6, most_steps=4, names=NAMES, kinds=KINDS, back=True):
    """Return a graph with these names; if `back` is true, some blocks may go on to block 0."""
    blocks = []
    for row in random_goals(chance, chance.randrange(1, most_blocks + 1)):
        steps = [random_step(chance, chance.choice(kinds), names) for _ in range(chance.randrange(most_steps + 1))]
        if back and len(row) < 2 and chance.randrange(8) == 0:
            row = row + [0]
        if len(row) == 1 and chance.randrange(5) == 0:
            row = row * 2
        name = chance.choice(names)
        blocks.append((tuple(steps), ("pick", name, *row) if len(row) == 2 else ("go", *row) if row else ("give", name)))
    return (tuple(chance.sample(names, chance.randrange(min(5, len(names) + 1)))), tuple(blocks))


def random_step(chance, kind, names):
    """Return a step of the kind with some of the names."""
    one, other, third = (chance.choice(names) for _ in range(3))
    word = chance.choice((0, 1, 2, 3, 65535, chance.randrange(65536)))
    if kind == "set":
        return (kind, one, word)
    if kind == "times":
        return (kind, one, other, word)
    if kind == "read":
        return (kind, one, word % 2)
    if kind == "write":
        return (kind, word % 2, one)
    if kind in ("ask", "show"):
        return (kind, one)
    return (kind, one, other) if kind == "copy" else (kind, one, other, third)
