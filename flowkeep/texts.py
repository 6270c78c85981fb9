"""The text of a graph, and the graph of a text."""

from flowkeep.errors import InvalidText
from flowkeep.graphs import FIGURES, check_graph, is_graph

SIGNS = {"add": "+", "sub": "-", "mul": "*", "times": "*", "div": "/", "less": "<"}
KINDS = {"+": "add", "-": "sub", "*": "mul", "/": "div", "<": "less"}
# No graph has a longer one: the longest line, a choice with 40 pairs, has 405 signs, and a block 62 lines.
LONGEST_TEXT = 1100000
LONGEST_NUMBER = 5


def _right_side(step):
    """Return the text of what stands behind the sign = of a step that gives a name."""
    kind = step[0]
    if kind == "ask":
        return "ask"
    if kind == "read":
        return f"cell {step[2]}"
    if kind == "choose":
        return " ".join(["choose"] + [f"{block} {name}" for block, name in step[2]])
    if kind in SIGNS:
        return f"{step[2]} {SIGNS[kind]} {step[3]}"
    return str(step[2])


def step_text(step):
    """Return the text of the step."""
    if step[0] == "show":
        return f"show {step[1]}"
    if step[0] == "write":
        return f"cell {step[1]} = {step[2]}"
    return f"{step[1]} = {_right_side(step)}"


def format_graph(graph):
    """Return the text of the graph."""
    check_graph(graph)
    inputs, blocks = graph
    lines = [" ".join(["given", *inputs])]
    for at, block in enumerate(blocks):
        lines.append(f"block {at}")
        lines.extend([step_text(step) for step in block[0]])
        lines.append(" ".join([str(part) for part in block[1]]))
    return ";".join(lines)


def _number(word):
    """Return the number that is written so, or None if none of a graph is."""
    if not 1 <= len(word) <= LONGEST_NUMBER or not all([sign in FIGURES for sign in word]):
        return None
    if word[0] == "0" and len(word) > 1:
        return None
    return int(word)


def _choice(name, words):
    """Return the choice of which the words stand behind the word choose, or None."""
    if len(words) % 2 != 0:
        return None
    return ("choose", name, tuple([(_number(words[at]), words[at + 1]) for at in range(0, len(words), 2)]))


def _single_word_step(name, word):
    """Return the step that gives the name, with the one word behind the sign =."""
    if word == "ask":
        return ("ask", name)
    number = _number(word)
    return ("copy", name, word) if number is None else ("set", name, number)


def _reckoning(name, one, sign, other):
    """Return the step that gives the name what the sign makes of two parts, or None."""
    if sign not in KINDS:
        return None
    number = _number(other)
    if sign == "*" and number is not None:
        return ("times", name, one, number)
    return (KINDS[sign], name, one, other)


def _step(words):
    """Return the step that the words of a line tell, or None if they can't; its parts may be wrong."""
    if words[0] == "show" and len(words) == 2:
        return ("show", words[1])
    if words[0] == "cell" and len(words) == 4 and words[2] == "=":
        return ("write", _number(words[1]), words[3])
    if len(words) < 3 or words[1] != "=":
        return None
    if words[2] == "choose":
        return _choice(words[0], words[3:])
    if len(words) == 3:
        return _single_word_step(words[0], words[2])
    if len(words) == 4 and words[2] == "cell":
        return ("read", words[0], _number(words[3]))
    if len(words) == 5:
        return _reckoning(words[0], words[2], words[3], words[4])
    return None


def _end(words):
    """Return the end that the words of a line tell, or None if they can't; its parts may be wrong."""
    if words[0] == "go" and len(words) == 2:
        return ("go", _number(words[1]))
    if words[0] == "pick" and len(words) == 4:
        return ("pick", words[1], _number(words[2]), _number(words[3]))
    if words[0] == "give" and len(words) == 2:
        return ("give", words[1])
    return None


def _blocks(lines):
    """Return the tuple of the blocks that the lines tell, or None if they can't."""
    blocks = []
    steps = None
    for line in lines:
        words = line.split(" ")
        end = _end(words)
        if steps is None:
            if line != f"block {len(blocks)}":
                return None
            steps = []
        elif end is None:
            steps.append(_step(words))
        else:
            blocks.append((tuple(steps), end))
            steps = None
    return tuple(blocks) if steps is None else None


def parse_graph(text):
    """Return the graph with this text."""
    if not isinstance(text, str) or len(text) > LONGEST_TEXT:
        raise InvalidText("the value is not the text of a graph")
    lines = text.split(";")
    words = lines[0].split(" ")
    graph = (tuple(words[1:]), _blocks(lines[1:]))
    if words[0] != "given" or not is_graph(graph):
        raise InvalidText("the value is not the text of a graph")
    return graph
