"""Machines: steps that touch pages, a clock of turns, and the runs that the steps allow."""

from itertools import combinations

from seldomseen.common import are_ascending_names, is_integer_in, is_name
from seldomseen.errors import BadClock, BadLength, BadMove, BadPages, BadSet, BadSteps, NoStep

MOST_STEPS = 8
MOST_FOLLOWING = 3
MOST_TURNS = 3
MOST_TICKS = 3
LEAST_PAGES = 2
MOST_PAGES = 4
MOST_MOVE = 9
LONGEST_RUN = 24


def is_step(value):
    """Whether a value has the form of a step; what it names need not be there."""
    if not isinstance(value, tuple) or len(value) != 3:
        return False
    name, page, following = value
    if not is_name(name) or not (page is None or is_name(page)):
        return False
    return are_ascending_names(following) and len(following) <= MOST_FOLLOWING


def are_steps(value):
    """Whether a value is the steps of a machine."""
    if not isinstance(value, tuple) or not 1 <= len(value) <= MOST_STEPS:
        return False
    if not all([is_step(step) for step in value]):
        return False
    names = [step[0] for step in value]
    if len(set(names)) < len(names):
        return False
    return all([name in names for step in value for name in step[2]])


def is_clock(value):
    """Whether a value is the clock of a machine."""
    if not isinstance(value, tuple) or not 1 <= len(value) <= MOST_TURNS:
        return False
    return all([is_integer_in(ticks, 1, MOST_TICKS) for ticks in value])


def are_pages(steps, value):
    """Whether a value is the pages of a machine with these steps."""
    if not are_ascending_names(value) or not LEAST_PAGES <= len(value) <= MOST_PAGES:
        return False
    return all([page is None or page in value for name, page, following in steps])


def is_set(pages, value):
    """Whether a value is a set of a machine with these pages, of any size that sets can have."""
    if not are_ascending_names(value) or not 1 <= len(value) < len(pages):
        return False
    return all([page in pages for page in value])


class Machine:
    """A program's steps, the turns in which it runs, its pages, and what a move costs."""

    def __init__(self, steps, clock, pages, move, first):
        if not are_steps(steps):
            raise BadSteps(steps)
        if not is_clock(clock):
            raise BadClock(clock)
        if not are_pages(steps, pages):
            raise BadPages(pages)
        if not is_integer_in(move, 0, MOST_MOVE):
            raise BadMove(move)
        if not is_set(pages, first):
            raise BadSet(first)
        self._steps = steps
        self._clock = clock
        self._pages = pages
        self._move = move
        self._first = first
        self._names = tuple([name for name, page, following in steps])
        # Pages ascend, so these come in ascending order, each ascending itself.
        self._sets = tuple(combinations(list(pages), len(first)))
        self._page_of = {name: page for name, page, following in steps}
        self._following_of = {name: following for name, page, following in steps}

    @property
    def steps(self):
        """The steps, each (name, page, following)."""
        return self._steps

    @property
    def clock(self):
        """The ticks of the turns that come round and round."""
        return self._clock

    @property
    def pages(self):
        """All pages, ascending."""
        return self._pages

    @property
    def move(self):
        """What it costs that a page comes in."""
        return self._move

    @property
    def first(self):
        """The set of turn 0."""
        return self._first

    @property
    def names(self):
        """The names of the steps, in their order."""
        return self._names

    @property
    def sets(self):
        """All sets with as many pages as the first one, ascending."""
        return self._sets

    def __eq__(self, other):
        return (isinstance(other, Machine) and self._steps == other._steps and self._clock == other._clock
                and self._pages == other._pages and self._move == other._move and self._first == other._first)

    def following(self, name):
        """The names of the steps that may follow this one, ascending."""
        self._check_step(name)
        return self._following_of[name]

    def page(self, name):
        """The page that this step touches, None if it touches none."""
        self._check_step(name)
        return self._page_of[name]

    def is_run(self, value):
        """Whether a value is a run: from the first step on, each one following the one ahead."""
        if not isinstance(value, tuple) or len(value) == 0 or value[0] != self._names[0]:
            return False
        ahead = value[0]
        for name in value[1:]:
            if name not in self._following_of[ahead]:
                return False
            ahead = name
        return True

    def runs(self, length):
        """Generate all runs of this length, ascending."""
        if not is_integer_in(length, 1, LONGEST_RUN):
            raise BadLength(length)
        waiting = [(self._names[0],)]
        while waiting:
            run = waiting.pop()
            if len(run) == length:
                yield run
            else:
                # The least one is put there last, since the last one is taken next.
                for name in reversed(self._following_of[run[-1]]):
                    waiting.append((*run, name))

    def _check_step(self, name):
        # A list or a dict is no key, but may be looked for in a tuple.
        if name not in self._names:
            raise NoStep(name)
