"""Rules: what sets the marks lead to, turn by turn, and whether two rules have the same sets in all runs."""

from seldomseen.common import are_pages_of, is_integer_in, is_whole, place_of, turns_of
from seldomseen.errors import BadStates, OtherMachine
from seldomseen.prices import price
from seldomseen.watches import check_watch, seen
from seldomseen.ways import marked_ways

MOST_STATES = 12

# Where two rules stand together ahead of the first step.
BOTH_BEGIN = (0, 0, None, (), ())


def is_rule_state(machine, watch, many, value):
    """Whether a value is a state of a rule that has so many, but for the places to which its answers lead."""
    if not isinstance(value, tuple) or len(value) != 3:
        return False
    place, chosen, answers = value
    if not is_integer_in(place, 0, len(machine.clock) - 1) or chosen not in machine.sets:
        return False
    if not isinstance(answers, tuple) or len(answers) != 1 << len(watch[place]):
        return False
    return all([is_integer_in(number, 0, many - 1) for number in answers])


def are_linked(machine, watch, value):
    """Whether a value is any number of states of which the first one begins and each answer leads to the next place."""
    if not isinstance(value, tuple) or len(value) == 0:
        return False
    if not all([is_rule_state(machine, watch, len(value), state) for state in value]):
        return False
    if value[0][:2] != (0, machine.first):
        return False
    return all([value[number][0] == place_of(machine, place + 1)
                for place, chosen, answers in value for number in answers])


def are_states(machine, watch, value):
    """Whether a value is the states of a rule."""
    return are_linked(machine, watch, value) and len(value) <= MOST_STATES


def rank_of(marks):
    """At which place marks stand among all marks of the same pages, ascending."""
    rank = 0
    # Tuples of marks ascend as numbers in the binary system do, False being 0.
    for mark in marks:
        rank = rank * 2 + (1 if mark else 0)
    return rank


def answer(states, number, marks):
    """The number of the state to which the state of this number answers these marks."""
    return states[number][2][rank_of(marks)]


def numbers_for(rule, journal):
    """The numbers of a rule's states, the first one and one behind each turn with the marks that were seen."""
    numbers = [0]
    for marks in journal:
        numbers.append(answer(rule.states, numbers[-1], marks))
    return numbers


class Rule:
    """What set comes next, by the marks that a watch sees."""

    def __init__(self, machine, watch, states):
        check_watch(machine, watch)
        if not are_states(machine, watch, states):
            raise BadStates(states)
        self._machine = machine
        self._watch = watch
        self._states = states

    @property
    def machine(self):
        """The machine whose pages are exchanged."""
        return self._machine

    @property
    def watch(self):
        """The watch whose marks are answered."""
        return self._watch

    @property
    def states(self):
        """The states, each (place, set, answers)."""
        return self._states

    def __eq__(self, other):
        return (isinstance(other, Rule) and self._machine == other._machine and self._watch == other._watch
                and self._states == other._states)

    def row(self, run):
        """The row of sets that the rule has in a run."""
        return tuple([self._states[number][1] for number in self.numbers(run)])

    def numbers(self, run):
        """The numbers of the states that the rule has in the turns of a run."""
        many = len(turns_of(self._machine, run))
        # Behind a run that is whole there is one more, of a turn that the run has not.
        return tuple(numbers_for(self, seen(self._machine, self._watch, run))[:many])

    def price(self, run):
        """What a run costs with the rule's sets."""
        return price(self._machine, run, self.row(run))


def check_machines(one, other):
    """Raise OtherMachine of the second rule's machine, if it is not the first one's."""
    if one.machine != other.machine:
        raise OtherMachine(other.machine)


def have_one_set(one, other, pair):
    """Whether the rules have the same set where they stand."""
    return one.states[pair[0]][1] == other.states[pair[1]][1]


def pairs_behind(one, other, pair):
    """(names, pair) of the whole turns behind a pair, ascending by the names."""
    machine = one.machine
    number, beside, step, pages, others = pair
    place = one.states[number][0]
    ticks = machine.clock[place]
    found = []
    # Both lists have the same names, since what is seen does not change where the steps lead.
    for way, same in zip(marked_ways(machine, ticks, one.watch[place], (step, pages)),
                         marked_ways(machine, ticks, other.watch[place], (step, others))):
        names, marks, (last, left) = way
        _, signs, (_, rest) = same
        behind = (answer(one.states, number, marks), answer(other.states, beside, signs), last, left, rest)
        found.append((names, behind))
    return found


def turns_behind(one, other, pair):
    """(names, pair) of the whole turns behind a pair whose last step something follows, ascending by the names."""
    machine = one.machine
    found = pairs_behind(one, other, pair)
    return [(names, behind) for names, behind in found if len(machine.following(names[-1])) > 0]


def alike(one, other):
    """("alike", table) if two rules have the same sets in all runs, else ("parts", run) with the least run."""
    check_machines(one, other)
    found = {BOTH_BEGIN: True}
    waiting = [(BOTH_BEGIN, ())]
    while waiting:
        behind = []
        # Runs ascend, and so the first one with which a pair is found is the least of the shortest ones.
        for pair, run in waiting:
            for names, after in turns_behind(one, other, pair):
                if not have_one_set(one, other, after):
                    return ("parts", (*run, *names))
                if after not in found:
                    found[after] = True
                    behind.append((after, (*run, *names)))
        waiting = behind
    return ("alike", tuple(found))


def is_pair(one, other, value):
    """Whether a value has the form of where two rules stand together at the beginning of a turn."""
    if not isinstance(value, tuple) or len(value) != 5:
        return False
    number, beside, step, pages, others = value
    if not is_integer_in(number, 0, len(one.states) - 1) or not is_integer_in(beside, 0, len(other.states) - 1):
        return False
    if one.states[number][0] != other.states[beside][0]:
        return False
    if step is None:
        return value == BOTH_BEGIN
    return step in one.machine.names and are_pages_of(one.machine, pages) and are_pages_of(one.machine, others)


def are_alike_by(one, other, value):
    """Whether a value is a table that shows that two rules have the same sets in all runs."""
    if not isinstance(value, tuple) or not all([is_pair(one, other, pair) for pair in value]):
        return False
    table = {pair: True for pair in value}
    if len(table) < len(value) or BOTH_BEGIN not in table:
        return False
    for pair in value:
        if not have_one_set(one, other, pair):
            return False
        if not all([after in table for names, after in turns_behind(one, other, pair)]):
            return False
    return True


def part_behind(one, other, value):
    """Whether a value is a whole run with a last step that something follows, behind which the next sets differ."""
    machine = one.machine
    if not machine.is_run(value) or not is_whole(machine, value) or len(machine.following(value[-1])) == 0:
        return False
    number = numbers_for(one, seen(machine, one.watch, value))[-1]
    beside = numbers_for(other, seen(machine, other.watch, value))[-1]
    return one.states[number][1] != other.states[beside][1]


def shows_alike(one, other, value):
    """Whether a value shows, as that of alike does, that two rules have the same sets in all runs, or have not."""
    check_machines(one, other)
    if not isinstance(value, tuple) or len(value) != 2:
        return False
    word, shown = value
    if word == "alike":
        return are_alike_by(one, other, shown)
    return word == "parts" and part_behind(one, other, shown)
