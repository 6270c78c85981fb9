"""Values that several tests use."""


def deep(wrap):
    """Return a value wrapped 30 times."""
    value = 1
    for _ in range(30):
        value = wrap(value)
    return value


def oddities():
    """Return values of all kinds that no function takes as a number, row, graph or formula."""
    return [
        True, False, None, "", "x", "1", "\u0663", 0.0, 1.0, 2.5, float("nan"), float("inf"), float("-inf"),
        b"", b"x", [], [1], [True], [[]], {}, {"a": 1}, {1: [2]}, {"a": {"b": (None,)}},
        ([],), ({},), (None,), ("x",), (1.0,), (True,), ((), ()), ((True,),), ((1.0,),), (([1],),), ({"a": (1,)},),
        [(1, 2)], [[1, 2]], ((1, 2), [1, 2]), ((1, 2), {"a": 1}), ((1, None),), (("1", "2"),), "((1, 2),)",
        set(), frozenset([1]), object(), 1j, len, int,
        deep(lambda value: [value]), deep(lambda value: (value,)), deep(lambda value: {"a": value}),
    ]


def no_words():
    """Return values that are no words."""
    return oddities() + [(), (1,), -1, 65536, 10 ** 30, -10 ** 5000, 10 ** 5000]
