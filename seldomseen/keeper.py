"""A keeper: follows a rule mark by mark, and tells what the marks seen so far surely tell."""

from seldomseen.common import is_integer_in, place_of
from seldomseen.errors import (
    BadMarks, NoState, Nothing, NothingToUndo, OtherMachine, OtherSet, OtherWatch, Stuck, TooLong)
from seldomseen.fitting import fitting
from seldomseen.journals import MOST_SEEN, are_marks
from seldomseen.prices import moving
from seldomseen.rules import answer
from seldomseen.warmth import age, slow, touches, warmest


class Keeper:
    """Follows a rule from the beginning on."""

    def __init__(self, rule):
        # A state is (rule, number, journal, sets, paid). The past has each deed, with the state ahead of it.
        self._state = (rule, 0, (), (rule.machine.first,), 0)
        self._past = []

    @property
    def rule(self):
        """The rule now."""
        return self._state[0]

    @property
    def number(self):
        """The number of the rule's state now."""
        return self._state[1]

    @property
    def turn(self):
        """The number of the turn under way."""
        return len(self._state[2])

    @property
    def now(self):
        """The set now."""
        return self._state[3][-1]

    @property
    def journal(self):
        """The marks that were seen."""
        return self._state[2]

    @property
    def sets(self):
        """The sets of all turns, that of the turn under way too."""
        return self._state[3]

    @property
    def paid(self):
        """What was paid for moves."""
        return self._state[4]

    def __eq__(self, other):
        return isinstance(other, Keeper) and self._state == other._state

    def see(self, marks):
        """Take the marks behind the turn under way; returns the next set."""
        rule, number, journal, sets, paid = self._state
        if not are_marks(rule.watch[place_of(rule.machine, len(journal))], marks):
            raise BadMarks(marks)
        if len(journal) == MOST_SEEN:
            raise TooLong(MOST_SEEN)
        longer = (*journal, marks)
        if fitting(rule.machine, rule.watch, longer) is None:
            raise Stuck(len(journal))
        behind = answer(rule.states, number, marks)
        chosen = rule.states[behind][1]
        cost = moving(rule.machine, sets[-1], chosen)
        self._go_on("see", (rule, behind, longer, (*sets, chosen), paid + cost))
        return chosen

    def swap(self, rule, number):
        """Follow this rule from now on, from its state of this number."""
        before, _, journal, sets, paid = self._state
        if rule.machine != before.machine:
            raise OtherMachine(rule.machine)
        if rule.watch != before.watch:
            raise OtherWatch(rule.watch)
        if not is_integer_in(number, 0, len(rule.states) - 1):
            raise NoState(number)
        place, chosen, answers = rule.states[number]
        if place != place_of(rule.machine, len(journal)):
            raise NoState(number)
        if chosen != sets[-1]:
            raise OtherSet(chosen)
        self._go_on("swap", (rule, number, journal, sets, paid))

    def undo(self):
        """Go back to what was ahead of the last deed that is not undone; returns "see" or "swap"."""
        if not self._past:
            raise NothingToUndo(None)
        deed, self._state = self._past.pop()
        return deed

    def touches(self, page):
        """(least, greatest): how often the page was touched."""
        machine, watch, journal = self._seen_so_far()
        return touches(machine, watch, journal, page)

    def age(self, page):
        """(least, greatest): how many ticks ago the page was touched last."""
        machine, watch, journal = self._seen_so_far()
        return age(machine, watch, journal, page)

    def warmest(self):
        """(page, run) for each page that may be the warmest."""
        machine, watch, journal = self._seen_so_far()
        return warmest(machine, watch, journal)

    def slow(self):
        """(least, greatest) of the slow touches, with the sets that were had."""
        machine, watch, journal = self._seen_so_far()
        return slow(machine, watch, journal, self._state[3][:-1])

    def trial(self):
        """What binds, in a with statement, an equal keeper that may be changed alone."""
        return Trial(self)

    def tried(self, look):
        """What look returns for an equal keeper that may be changed alone."""
        return look(twin_of(self))

    def _go_on(self, deed, state):
        self._past.append((deed, self._state))
        self._state = state

    def _seen_so_far(self):
        rule, number, journal, sets, paid = self._state
        if len(journal) == 0:
            raise Nothing(None)
        return (rule.machine, rule.watch, journal)


def twin_of(keeper):
    """An equal keeper with nothing to undo."""
    other = Keeper(keeper.rule)
    # States are tuples, and so what is done with one keeper is not seen by the other one.
    other._state = keeper._state
    return other


class Trial:
    """Binds an equal keeper with nothing to undo."""

    def __init__(self, keeper):
        self._keeper = keeper

    def __enter__(self):
        return twin_of(self._keeper)

    def __exit__(self, kind, value, trace):
        return False
