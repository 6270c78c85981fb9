"""The exceptions of the package, one for each kind of failure."""


class FlowError(ValueError):
    """Any failure that the package tells of."""


class InvalidNumber(FlowError):
    """A number is not an integer of the required kind."""


class InvalidRow(FlowError):
    """A width, a row, or a tuple of rows is not one."""


class InvalidFormula(FlowError):
    """A value is not a formula of so many inputs."""


class InvalidGraph(FlowError):
    """A value is not a graph."""


class InvalidBlock(FlowError):
    """A value is not the number of a block of the graph."""


class InvalidName(FlowError):
    """A value is not a name that stands in the graph."""


class InvalidValues(FlowError):
    """Values, answers, or bounds of a run or a formula are none."""


class InvalidWay(FlowError):
    """A value is not a way in the graph."""


class InvalidText(FlowError):
    """A value is not the text of a graph."""


class InvalidPass(FlowError):
    """A value is not the name of a pass, or not a tuple of such names."""


class InvalidPaper(FlowError):
    """A value is not a paper for two graphs."""


class NotCounted(FlowError):
    """A loop is not counted."""


class NotOdd(FlowError):
    """A word is even, where an odd one is required."""


class NotSingle(FlowError):
    """A graph is not in single form."""


class NotPlain(FlowError):
    """A graph is not plain."""


class NoLoop(FlowError):
    """A block is not the head of a loop."""


class TooMany(FlowError):
    """A graph has too many names, or would have too many blocks or steps."""


class NothingToUndo(FlowError):
    """There is no pass to be undone or performed again."""
