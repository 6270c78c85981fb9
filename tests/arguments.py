"""Wrong arguments of each kind, at each argument, alone and beside other wrong ones."""

from flowkeep.errors import (
    InvalidBlock, InvalidGraph, InvalidName, InvalidNumber, InvalidPaper, InvalidPass, InvalidRow, InvalidValues, InvalidWay,
    NotPlain, NotSingle)
from tests.programs import ALL, D, L
from tests.samples import no_words, oddities

NO_GRAPHS = oddities() + [
    (), 1, ((), ()), [(), (((), ("give", "x")),)], list(L), (L[0], list(L[1])), ((), (((("go", 0),), ("go", 0)),)),
    ((), (((), ("give", "x")),) * 41), ((), (((("ask", "x"),) * 61, ("give", "x")),)), (("a",) * 2, L[1]),
    ((), (((), ("go", 1)),)), ((), (((), ("go", True)), ((), ("give", "x"))))]
NO_BLOCKS = oddities() + [(), (1,), -1, 4, 5, 40, 10 ** 30, -10 ** 5000, (0, 1)]
NO_NAMES = oddities() + [1, 0, (), ("i",), "", "given", "unused", "I", "i ", "c;", ["i"]]
# The graph L of the examples has 4 blocks, a state of 10 words, and no name x.
WRONG = {
    "graph": [(InvalidGraph, NO_GRAPHS)],
    "plain": [(InvalidGraph, NO_GRAPHS), (NotPlain, [ALL])],
    "single": [(InvalidGraph, NO_GRAPHS), (NotSingle, [L, D, ALL])],
    "block": [(InvalidBlock, NO_BLOCKS)],
    "head": [(InvalidBlock, NO_BLOCKS)],
    "blocks": [(InvalidBlock, oddities() + [0, 1, [], [0], (4,), (-1,), (0, 4), (True,), (0, 1.0), ((0,),), {0: 1}, "01"])],
    "name": [(InvalidName, NO_NAMES)],
    "most": [(InvalidNumber, oddities() + [0, 9, -1, 10 ** 5000, (), (1,)])],
    "equation": [(InvalidRow, oddities() + [(), 0, (0,) * 9, (0,) * 11, [0] * 10, "0" * 10] + [
        (0,) * at + (word,) + (0,) * (9 - at) for at in (0, 4, 9) for word in no_words()])],
    "way": [(InvalidWay, oddities() + [
        (), 0, (1,), (0, 0), (0, 2), (0, 1, 0), (0, 1, 2, 3), [0, 1], (0, 4), (0, -3), (0, 1.0), (0, True), (False, 1), (0.0,),
        (None,), (0, None), (0, "1"), ((0,),), (0, (1,)), (0, 1, [2]), (-4, 1), (0,) + (1, 2) * 10000, {0: 1}, "01"])],
    "paper": [(InvalidPaper, oddities() + [
        (), 0, ((0, 1),) * 3, ((0, 1),) * 5, [(0, 1)] * 4, ((0, 1), (1, 1), (2, 1), (4, 1)), ((0, 9),) * 4, ((0, 1),) * 3 + ((True, 1),),
        ((0, 1),) * 3 + ((0, -1),), ((0, 1),) * 3 + ([0, 1],), ((0, 1, 1),) * 4, (0, 1, 2, 3), "0123"])],
    "pass": [(InvalidPass, oddities() + [
        0, (), "Plain", "plain ", "led", "passes", "", "trimmed;plain", ("plain",), ["plain"], {"plain": 1}, b"plain", "folde", "swept\n"])],
    "names": [(InvalidPass, [value for value in oddities() if value != ()] + [
        0, "plain", ["plain"], ("plain", None), ("plain", "Plain"), (("plain",),), ("trimmed",) * 13, {"plain": 1}, ("plain", True), (1,),
        ("plain", ["plain"]), ("", "plain"), ("trimmed",) * 12 + ("x",)])],
    "values": [(InvalidValues, oddities() + [(), 3, (1,), (1, 2, 3), [1, 2], "12", {0: 1, 1: 2}] + [
        pair for word in no_words() for pair in ((word, 1), (1, word))])],
}


def check_arguments(test, function, right, kinds):
    """Check what a function raises for wrong arguments of the kinds, and that it does not for right ones."""
    function(*right)
    for at, kind in enumerate(kinds):
        for error, wrongs in WRONG[kind]:
            for wrong in wrongs:
                check_error(test, error, function, right[:at] + (wrong,) + right[at + 1:])
            # Wrong ones further right must not tell.
            for row in zip(*[WRONG[other][0][1][:12] for other in kinds[at + 1:]]):
                for wrong in wrongs[:6]:
                    check_error(test, error, function, right[:at] + (wrong,) + row)


def check_error(test, error, function, arguments):
    """Check that the function raises just this error."""
    # Some numbers are too long to be written, so that kinds must do for telling what failed.
    told = (function.__name__, [type(one).__name__ for one in arguments])
    try:
        function(*arguments)
    except Exception as caught:
        test.assertIs(type(caught), error, told)
    else:
        test.fail(told)
