"""By how much one rule is ever dearer than another one, in any run."""

from seldomseen.bounds import MOST_WEIGHT, is_ring, stands_along
from seldomseen.climbs import Climb, is_table, ring_of, table_of, top_of, way_to
from seldomseen.common import is_integer, turns_of
from seldomseen.gains import check_weights, gain_behind, gain_of, gain_within, peak_within
from seldomseen.prices import total_price
from seldomseen.rules import BOTH_BEGIN, check_machines, is_pair, pairs_behind


class Meetings:
    """All runs as walks over what alike tells of them: (number, number, last step, pages, pages) of two rules."""

    def __init__(self, one, other, weights):
        self._one = one
        self._other = other
        self._weights = weights

    def begin(self):
        """Where a run begins."""
        return BOTH_BEGIN

    def begins_anew(self, pair):
        """Whether what was paid ahead does not count, which it always does."""
        return False

    def peak_at(self, pair):
        """(gain, names) of the highest tick in the turn, None if there is none."""
        own, beside = self._own_sets(pair)
        place = self._one.states[pair[0]][0]
        return peak_within(self._one.machine, self._weights, place, pair[2], own, beside)

    def turns_from(self, pair):
        """(names, pair, gain) of the whole turns."""
        machine = self._one.machine
        own, beside = self._own_sets(pair)
        found = []
        for names, after in pairs_behind(self._one, self._other, pair):
            next_own, next_beside = self._own_sets(after)
            moved = gain_behind(machine, self._weights, (own, next_own), (beside, next_beside))
            found.append((names, after, gain_within(machine, self._weights, names, own, beside) + moved))
        return found

    def is_stand(self, value):
        """Whether a value has the form of what alike tells."""
        return is_pair(self._one, self._other, value)

    def _own_sets(self, pair):
        return (self._one.states[pair[0]][1], self._other.states[pair[1]][1])


def versus(one, other, a, b):
    """("most", d, run, table): by how much the first rule is dearer at most; or ("grows", run, first, last)."""
    check_machines(one, other)
    check_weights(a, b, MOST_WEIGHT)
    meetings = Meetings(one, other, (a, b))
    climb = Climb(meetings)
    if climb.ring is None:
        d, pair, names = top_of(meetings, climb)
        pairs, ahead = way_to(climb.highest, pair)
        return ("most", d, (*ahead, *names), table_of(climb))
    before, ahead = way_to(climb.reached, climb.ring)
    pairs, ring = ring_of(climb.highest, climb.ring)
    return ("grows", (*ahead, *ring), len(before) - 1, len(before) + len(pairs) - 2)


def is_most(one, other, weights, value):
    """Whether a value shows by how much the first rule is dearer at most."""
    if not isinstance(value, tuple) or len(value) != 4 or value[0] != "most":
        return False
    _, d, run, table = value
    if not is_integer(d) or not one.machine.is_run(run):
        return False
    return gain_of(weights, one.price(run), other.price(run)) == d and is_table(Meetings(one, other, weights), d, table)


def is_growth(one, other, weights, value):
    """Whether a value shows that the first rule is dearer and dearer."""
    if not isinstance(value, tuple) or len(value) != 4 or value[0] != "grows":
        return False
    _, run, first, last = value
    machine = one.machine
    if not is_ring(machine, run, first, last):
        return False
    turns = turns_of(machine, run)
    paid = []
    for rule in (one, other):
        stands = stands_along(rule, turns)
        if stands[first] != stands[last]:
            return False
        sets = [rule.states[number][1] for number, step, pages in stands[first:last + 1]]
        paid.append(total_price(machine, turns[first:last], sets))
    return gain_of(weights, paid[0], paid[1]) > 0


def shows_versus(one, other, a, b, value):
    """Whether a value shows, as that of versus does, by how much the first rule is ever dearer, or that it grows."""
    check_machines(one, other)
    check_weights(a, b, MOST_WEIGHT)
    return is_most(one, other, (a, b), value) or is_growth(one, other, (a, b), value)
