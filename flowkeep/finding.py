"""Finding papers which show that two graphs have the same meaning."""

from flowkeep.courses import Course, Pair
from flowkeep.facts import EXPRESSIONS
from flowkeep.graphs import check_graph, chooses
from flowkeep.papers import LONGEST_ROW, agrees_so

# A search is given up behind so much work, and so many changes of mind on one course.
MOST_WORK = 2000
MOST_CHANGES = 9
# A passage through a new block is one piece of work, and one more for each so many values and results.
PIECE = 256
# Graphs of at most so many blocks are small.
SMALL = 8
# How unlike marks without a partner, and ends of unlike kinds, make a new block and a row of old ones.
HEAVY = 64
LIGHT = 8
OTHER_END = 128
OTHER_KIND = 1
# So many blocks further on it is looked whether they are alike.
LOOKS = 8
# More than any new block and row look unlike.
FARTHEST = 1000000


def _marks(steps):
    """Return the list of what passes keep of the steps other than choices: kinds and numbers."""
    others = [step for step in steps if not chooses(step)]
    return [(step[0], *[part for part in step[1:] if not isinstance(part, str)]) for step in others]


def _weight(mark, calm):
    """Return how unlike a mark without a partner makes a new block and a row of old ones."""
    if mark[0] == "copy":
        return 0 if calm else LIGHT
    return LIGHT if calm and mark[0] in EXPRESSIONS else HEAVY


def _unlikeness(marks, others, calm):
    """Return what the marks of either list weigh that have no partner in the other one."""
    counts = {}
    for mark in marks:
        counts[mark] = counts.get(mark, 0) + 1
    for mark in others:
        counts[mark] = counts.get(mark, 0) - 1
    return sum([abs(count) * _weight(mark, calm) for mark, count in counts.items()])


def _goals(end):
    """Return the list of the goals as they stand in the end, equal ones once."""
    if end[0] == "give":
        return []
    if end[0] == "go" or end[2] == end[3]:
        return [end[-1]]
    return [end[2], end[3]]


class Guesser:
    """Tells in which sequence rows, pairs of start and length, are tried for new blocks.

    The more alike a new block and a row look, and the blocks behind both, the earlier the row is tried.
    `unlike` tells how unlike they look by the new block, the start and the length; rows that leave
    aside one of the goals of a pick are not looked at. If `calm` is True, copies and expressions matter less.
    """

    def __init__(self, pair, calm):
        self.calm = calm
        self.old = pair.old
        self.new = pair.new
        self.old_marks = [_marks(steps) for steps, _ in self.old]
        self.new_marks = [_marks(steps) for steps, _ in self.new]
        self.starts = [self.starts_from(goal, pair) for goal in range(len(self.old))]
        # By the starts, the list of what a row of each length has: its marks, its end, and the starts behind each goal.
        self.rows = [self.rows_from(start) for start in range(len(self.old))]
        self.first = {}
        # By the same, the list of the pairs of a new goal and the starts that it may have.
        self.behind = {}
        for block in range(len(self.new)):
            for start, rows in enumerate(self.rows):
                for length in range(len(rows)):
                    self.first[(block, start, length)] = self.first_look(block, start, length)
                    self.behind[(block, start, length)] = self.pairs_behind(block, rows[length][2])
        self.unlike = self.first
        for _ in range(LOOKS):
            self.look_further()

    def starts_from(self, goal, pair):
        """Return the list of the old blocks to which goes lead from the goal over blocks without steps."""
        found = [goal]
        while True:
            end = self.old[found[-1]][1]
            if end[0] != "go" or end[1] in found or pair.row_over(goal, end[1]) is None:
                return found
            found.append(end[1])

    def rows_from(self, start):
        """Return the list of the rows that begin with the start, by their lengths."""
        rows = [([], ("go", start), [[start]])]
        marks = []
        block = start
        while len(rows) <= LONGEST_ROW:
            marks = marks + self.old_marks[block]
            end = self.old[block][1]
            rows.append((marks, end, [self.starts[goal] for goal in _goals(end)]))
            if len(_goals(end)) != 1:
                break
            block = _goals(end)[0]
        return rows

    def first_look(self, block, start, length):
        """Return how unlike the new block and the row look by themselves."""
        marks, end, _ = self.rows[start][length]
        its_end = self.new[block][1]
        # A block of which the old graph does nothing is likely to have been made for copies or expressions.
        unlike = _unlikeness(self.new_marks[block], marks, self.calm or length == 0)
        if len(_goals(end)) != len(_goals(its_end)):
            return unlike + OTHER_END
        return unlike if end[0] == its_end[0] else unlike + OTHER_KIND

    def pairs_behind(self, block, starts):
        """Return the list of the pairs of a goal of the new block and its starts, told those behind a row."""
        goals = _goals(self.new[block][1])
        if len(goals) == len(starts):
            return list(zip(goals, starts))
        return [(goal, some) for goal in goals for some in starts]

    def look_further(self):
        """Add to how unlike new blocks and rows look by themselves how unlike those behind both look by now."""
        best = {}
        for at, unlike in self.unlike.items():
            best[at[:2]] = min(unlike, best.get(at[:2], FARTHEST))
        found = {}
        for at, pairs in self.behind.items():
            worst = 0
            for goal, starts in pairs:
                worst = max(worst, min([best[(goal, start)] for start in starts]))
            found[at] = self.first[at] + worst * 3 // 4
        self.unlike = found


class Guesses:
    """The rows to be tried for new blocks, in sequence.

    Likely rows have one block; those of new blocks beyond the number of the old ones, which may have been
    made for edges, have none. If `likely` is True, they are tried ahead of all others.
    """

    def __init__(self, guesser, likely):
        self.guesser = guesser
        self.likely = likely

    def starts_of(self, start, goal):
        """Return the list of the starts of a goal, if the old graph goes on to its own goal, or stands at a start."""
        return [start] if goal is None else self.guesser.starts[goal]

    def sequence(self, block, starts):
        """Return the list of the rows for a new block that begin with one of the starts, in sequence."""
        likely = 1 if block < len(self.guesser.old) else 0
        found = []
        for at, start in enumerate(starts):
            for length in range(LONGEST_ROW + 1):
                unlike = self.guesser.unlike.get((block, start, length), FARTHEST)
                other = 0 if length == likely else 1
                found.append((other, unlike, at, length, start) if self.likely else (unlike, other, at, length, start))
        return [(guess[4], guess[3]) for guess in sorted(found)]


class Search:
    """Tries rows for one new block after the other, until a course fits.

    Where a row other than the first guess is tried, as many changes of mind are used up as guesses are ahead of it.
    """

    def __init__(self):
        self.left = MOST_WORK

    def fitted(self, course, guesses, changes):
        """Return the dict of the rows with which the course fits, those told so far among them, or None."""
        while course.waiting:
            if self.left <= 0:
                return None
            passage = course.passage(course.next_block())
            self.left -= 1 + (len(passage.desk.held) + len(passage.desk.made)) // PIECE
            if not passage.fits:
                return None
            for goal, old_goal in passage.crossings:
                if goal not in course.paper:
                    return self.tried(course, goal, guesses.starts_of(passage.start, old_goal), guesses, changes)
            if not course.go_on(passage):
                return None
        return course.paper

    def tried(self, course, block, starts, guesses, changes):
        """Return the same, rows that begin with one of the starts being tried for the new block."""
        for at, row in enumerate(guesses.sequence(block, starts)[:changes + 1]):
            further = course.copied()
            further.paper[block] = row
            if block == 0:
                further.begin()
            found = self.fitted(further, guesses, changes - at)
            if found is not None:
                return found
        return None


def _found(pair):
    """Return the dict of the rows, by the new blocks come to, with which a course of the pair fits, or None."""
    strict = Guesser(pair, False)
    ways = [Guesses(strict, False), Guesses(strict, True)]
    search = Search()
    for changes in range(MOST_CHANGES + 1):
        for guesses in ways:
            rows = search.tried(Course(pair), 0, [0], guesses, changes)
            if rows is not None:
                return rows
        if changes == 0:
            ways.append(Guesses(Guesser(pair, True), False))
    return None


def _ascending_rows(numbers, many):
    """Return the list of the ascending tuples of so many of the numbers, which are ascending."""
    rows = [()]
    for number in numbers:
        rows = rows + [(*row, number) for row in rows if len(row) < many]
    return [row for row in rows if len(row) == many]


def _length_up_to(blocks, start, starts):
    """Return how many blocks goes lead over from the start on, as long as they do not lead to one of the starts."""
    length = 1
    end = blocks[start][1]
    while end[0] == "go" and end[1] not in starts and length < LONGEST_ROW:
        length += 1
        end = blocks[end[1]][1]
    return length


def _known_papers(old, new):
    """Return a list of papers for two small graphs.

    One of them fits if the new graph is what a pass makes of the old one that keeps the sequence of the
    blocks that it keeps, if it joins rows of them, puts one in front, or puts some behind for edges.
    """
    others = list(range(1, len(old)))
    found = []
    for row in _ascending_rows(others, len(new) - 1):
        starts = (0, *row)
        found.append(tuple([(start, 1) for start in starts]))
        found.append(tuple([(start, _length_up_to(old, start, starts)) for start in starts]))
    for row in _ascending_rows(others, len(new) - 2):
        found.append(((0, 0), (0, 1), *[(start, 1) for start in row]))
    goals = [_goals(end) for _, end in new[len(old):]]
    if goals and all([len(row) == 1 and row[0] < len(old) for row in goals]):
        found.append(tuple([(start, 1) for start in range(len(old))] + [(row[0], 0) for row in goals]))
    return found


def _tried_papers(pair):
    """Return the list of the papers to be tried: the one that is found by guesses, and known ones for small graphs."""
    rows = _found(pair)
    found = []
    if rows is not None:
        # What the old graph does in blocks that can't be come to does not matter.
        found.append(tuple([rows.get(block, (0, 1)) for block in range(len(pair.new))]))
    elif len(pair.old) <= SMALL and len(pair.new) <= SMALL:
        found.extend(_known_papers(pair.old, pair.new))
    return found


def _paper(old, new):
    """Return a paper that shows that both graphs have the same meaning, or None, for what are known to be graphs."""
    if len(old[0]) != len(new[0]):
        return None
    for told in _tried_papers(Pair(old, new)):
        if agrees_so(old, new, told):
            return told
    return None


def paper(old, new):
    """Return a paper for which `agrees` returns True, or None."""
    check_graph(old)
    check_graph(new)
    return _paper(old, new)


def shows_same(old, new):
    """Return whether `paper` returns a paper for the two graphs."""
    check_graph(old)
    check_graph(new)
    return _paper(old, new) is not None
