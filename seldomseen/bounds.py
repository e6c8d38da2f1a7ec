"""By how much a rule is ever dearer than any other sets, in any stretch of any run, and the best rate that holds."""

from math import gcd

from seldomseen.climbs import Climb, is_table, ring_of, table_of, top_of, way_to
from seldomseen.common import are_pages_of, is_integer, is_integer_in, is_whole, place_of, turns_of
from seldomseen.gains import check_weights, gain_behind, gain_of, gain_within, peak_within
from seldomseen.prices import total_price
from seldomseen.rules import answer
from seldomseen.watches import marks_of, with_touches, without_seen
from seldomseen.ways import marked_ways

MOST_WEIGHT = 9

# All weights from 1 to 9 divide this, so that fractions can be put in order as integers.
FINEST = 2520


class Stretches:
    """The stretches of all runs of a rule, as walks: a stand is (number, last step, pages not seen, other set)."""

    def __init__(self, rule, weights):
        self._rule = rule
        self._weights = weights

    def begin(self):
        """Where a run begins, which is a stretch of its own."""
        return (0, None, (), self._rule.machine.first)

    def begins_anew(self, stand):
        """Whether the other set is the rule's own one, so that a stretch may begin here."""
        return self._rule.states[stand[0]][1] == stand[3]

    def peak_at(self, stand):
        """(gain, names) of the highest tick in the turn, None if there is none."""
        number, step, pages, other = stand
        place, own, answers = self._rule.states[number]
        return peak_within(self._rule.machine, self._weights, place, step, own, other)

    def turns_from(self, stand):
        """(names, stand, gain) for each stand to which whole turns lead, of the turns that gain most."""
        number, step, pages, other = stand
        rule = self._rule
        machine = rule.machine
        place, own, answers = rule.states[number]
        best = {}
        for names, marks, (last, left) in marked_ways(machine, machine.clock[place], rule.watch[place], (step, pages)):
            after = (answer(rule.states, number, marks), last, left)
            gain = gain_within(machine, self._weights, names, own, other)
            if after not in best or best[after][0] < gain:
                best[after] = (gain, names)
        found = []
        for (after, last, left), (gain, names) in best.items():
            for chosen in machine.sets:
                moved = gain_behind(machine, self._weights, (own, rule.states[after][1]), (other, chosen))
                found.append((names, (after, last, left, chosen), gain + moved))
        return found

    def is_stand(self, value):
        """Whether a value has the form of a stand."""
        if not isinstance(value, tuple) or len(value) != 4:
            return False
        number, step, pages, other = value
        if not is_integer_in(number, 0, len(self._rule.states) - 1):
            return False
        if step is None:
            return value == self.begin()
        machine = self._rule.machine
        return step in machine.names and are_pages_of(machine, pages) and other in machine.sets


def greatest_excess(stretches, climb):
    """What bound tells if no stretch climbs again and again."""
    d, stand, names = top_of(stretches, climb)
    stands, stretch = way_to(climb.highest, stand)
    before, ahead = way_to(climb.reached, stands[0])
    sets = tuple([other for number, step, pages, other in stands])
    return ("most", d, (*ahead, *stretch, *names), len(before) - 1, sets, table_of(climb))


def growing_ring(climb):
    """What bound tells if stretches climb again and again."""
    stands, ring = ring_of(climb.highest, climb.ring)
    before, ahead = way_to(climb.reached, climb.ring)
    first = len(before) - 1
    sets = tuple([other for number, step, pages, other in stands])
    return ("grows", (*ahead, *ring), first, first + len(stands) - 1, sets)


def bound(rule, a, b):
    """("most", d, run, turn, sets, table): the greatest excess of a stretch; or ("grows", run, first, last, sets)."""
    check_weights(a, b, MOST_WEIGHT)
    stretches = Stretches(rule, (a, b))
    climb = Climb(stretches)
    if climb.ring is None:
        return greatest_excess(stretches, climb)
    return growing_ring(climb)


def are_sets(machine, many, value):
    """Whether a value is a tuple of so many sets, the first one any."""
    return isinstance(value, tuple) and len(value) == many and all([chosen in machine.sets for chosen in value])


def reaches(rule, weights, d, run, turn, sets):
    """Whether a stretch of a run, from the beginning of this turn on, has the excess d beside these sets."""
    machine = rule.machine
    if not machine.is_run(run):
        return False
    turns = turns_of(machine, run)
    if not is_integer_in(turn, 0, len(turns) - 1) or not are_sets(machine, len(turns) - turn, sets):
        return False
    own = rule.row(run)[turn:]
    if own[0] != sets[0]:
        return False
    return gain_of(weights, total_price(machine, turns[turn:], own), total_price(machine, turns[turn:], sets)) == d


def stands_along(rule, turns):
    """(number, last step, pages not seen) at the beginning of each of these whole turns, and behind the last one."""
    machine = rule.machine
    found = [(0, None, ())]
    for at, turn in enumerate(turns):
        watched = rule.watch[place_of(machine, at)]
        number, step, pages = found[-1]
        touched = with_touches(machine, pages, turn)
        behind = answer(rule.states, number, marks_of(watched, touched))
        found.append((behind, turn[-1], without_seen(watched, touched)))
    return found


def is_ring(machine, run, first, last):
    """Whether a run is whole and has turns from first up to last, last itself perhaps being behind the run."""
    if not machine.is_run(run) or not is_whole(machine, run) or not is_integer(first):
        return False
    return first >= 0 and is_integer_in(last, first + 1, len(turns_of(machine, run)))


def grows_by(rule, weights, run, first, last, sets):
    """Whether a rule comes in a run from turn first back to where it stood, and pays more than these sets."""
    machine = rule.machine
    if not is_ring(machine, run, first, last) or not are_sets(machine, last - first + 1, sets):
        return False
    turns = turns_of(machine, run)
    stands = stands_along(rule, turns)
    if sets[0] != sets[-1] or stands[first] != stands[last]:
        return False
    own = [rule.states[number][1] for number, step, pages in stands[first:last + 1]]
    round_turns = turns[first:last]
    return gain_of(weights, total_price(machine, round_turns, own), total_price(machine, round_turns, sets)) > 0


def is_most(rule, weights, value):
    """Whether a value shows the greatest excess."""
    if not isinstance(value, tuple) or len(value) != 6 or value[0] != "most":
        return False
    _, d, run, turn, sets, table = value
    return is_integer(d) and reaches(rule, weights, d, run, turn, sets) and is_table(Stretches(rule, weights), d, table)


def is_growth(rule, weights, value):
    """Whether a value shows that no excess is the greatest."""
    if not isinstance(value, tuple) or len(value) != 5 or value[0] != "grows":
        return False
    _, run, first, last, sets = value
    return grows_by(rule, weights, run, first, last, sets)


def shows_bound(rule, a, b, value):
    """Whether a value shows, as that of bound does, the greatest excess of a rule, or that there is none."""
    check_weights(a, b, MOST_WEIGHT)
    return is_most(rule, (a, b), value) or is_growth(rule, (a, b), value)


def fractions():
    """All (a, b) from 1 to 9 without a common divisor, ascending by a / b."""
    weights = range(1, MOST_WEIGHT + 1)
    found = [(a, b) for a in weights for b in weights if gcd(a, b) == 1]
    return sorted(found, key=lambda pair: pair[0] * FINEST // pair[1])


def growing_fractions(rule):
    """How many of the fractions, from the least one on, have no greatest excess."""
    ascending = fractions()
    low = 0
    high = len(ascending)
    # The more the other sets' price weighs, the less any stretch exceeds it, and so halves can be left out.
    while low < high:
        middle = (low + high) // 2
        if Climb(Stretches(rule, ascending[middle])).ring is None:
            high = middle
        else:
            low = middle + 1
    return low


def rate(rule):
    """(a, b, answer, lower): the least a / b with a greatest excess, what bound tells of it and of the next lesser one.

    None if there is none.
    """
    ascending = fractions()
    at = growing_fractions(rule)
    if at == len(ascending):
        return None
    a, b = ascending[at]
    if at == 0:
        return (a, b, bound(rule, a, b), None)
    less, more = ascending[at - 1]
    return (a, b, bound(rule, a, b), bound(rule, less, more))


def shows_rate(rule, value):
    """Whether a value shows, as that of rate does, the least fraction with a greatest excess, or that there is none."""
    ascending = fractions()
    if value is None:
        return growing_fractions(rule) == len(ascending)
    if not isinstance(value, tuple) or len(value) != 4:
        return False
    a, b, told, lower = value
    if not is_integer(a) or not is_integer(b) or (a, b) not in ascending or not is_most(rule, (a, b), told):
        return False
    at = ascending.index((a, b))
    if at == 0:
        return lower is None
    return is_growth(rule, ascending[at - 1], lower)
