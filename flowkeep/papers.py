"""Papers, which show that two graphs have the same meaning, and whether they do."""

from flowkeep.courses import Course, Pair
from flowkeep.errors import InvalidPaper
from flowkeep.graphs import check_graph
from flowkeep.words import is_integer

LONGEST_ROW = 8


def _is_pair(value, many):
    """Return whether the value is a pair of the number of one of so many blocks, and a length."""
    if not isinstance(value, tuple) or len(value) != 2 or not is_integer(value[0]) or not is_integer(value[1]):
        return False
    return 0 <= value[0] < many and 0 <= value[1] <= LONGEST_ROW


def _is_paper(old, new, value):
    """Return whether the value is a paper for what are known to be graphs."""
    if not isinstance(value, tuple) or len(value) != len(new[1]):
        return False
    return all([_is_pair(pair, len(old[1])) for pair in value])


def is_paper(old, new, value):
    """Return whether the value is a paper for the two graphs."""
    check_graph(old)
    check_graph(new)
    return _is_paper(old, new, value)


def agrees_so(old, new, paper):
    """Return whether the paper shows that both graphs have the same meaning, for what are known to be such."""
    if len(old[0]) != len(new[0]) or paper[0][0] != 0:
        return False
    course = Course(Pair(old, new))
    course.paper = dict(enumerate(paper))
    course.begin()
    while course.waiting:
        passage = course.passage(course.next_block())
        if not passage.fits or not course.go_on(passage):
            return False
    return True


def agrees(old, new, paper):
    """Return whether the paper shows that both graphs have the same meaning."""
    check_graph(old)
    check_graph(new)
    if not _is_paper(old, new, paper):
        raise InvalidPaper("the value is not a paper for the two graphs")
    return agrees_so(old, new, paper)
