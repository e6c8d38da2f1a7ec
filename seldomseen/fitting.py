"""Which runs fit a journal: whether one does, the least one, how many, where they are, and why none does."""

from seldomseen.common import is_ascending, is_integer_in
from seldomseen.costs import greatest_to_come, least_run, weighed_turns
from seldomseen.errors import BadRun, BadTick
from seldomseen.journals import legs_of, states_behind, ticks_of
from seldomseen.watches import seen
from seldomseen.ways import BEGINNING, is_state


def fits(machine, watch, journal, run):
    """Whether a run has just the turns of the journal, whole, and its marks."""
    legs = legs_of(machine, watch, journal)
    if not machine.is_run(run):
        raise BadRun(run)
    return len(run) == ticks_of(legs) and seen(machine, watch, run) == journal


def fitting(machine, watch, journal):
    """The least run that fits, None without one."""
    legs = legs_of(machine, watch, journal)
    return least_run(weighed_turns(machine, legs, {}), 0)


def how_many(machine, watch, journal):
    """The number of runs that fit."""
    legs = legs_of(machine, watch, journal)
    ahead = {BEGINNING: 1}
    for ways in weighed_turns(machine, legs, {}):
        behind = {}
        for state, many in ahead.items():
            for names, after, cost in ways[state]:
                behind[after] = behind.get(after, 0) + many
        ahead = behind
    return sum(ahead.values())


def where(machine, watch, journal, tick):
    """The ascending tuple of the steps at which runs that fit are at this tick."""
    legs = legs_of(machine, watch, journal)
    if not is_integer_in(tick, 0, ticks_of(legs) - 1):
        raise BadTick(tick)
    turns = weighed_turns(machine, legs, {})
    number = len([leg for leg in legs if leg[0] <= tick]) - 1
    # From other states no run goes on to the end.
    alive = greatest_to_come(turns)[number + 1]
    at = tick - legs[number][0]
    return tuple(sorted(set([
        names[at] for rows in turns[number].values() for names, after, cost in rows if after in alive])))


def stuck(machine, watch, journal):
    """(k, layers) if no run fits: k turns are too many, the layers show it. None if one does."""
    layers = []
    states = (BEGINNING,)
    for leg in legs_of(machine, watch, journal):
        states = states_behind(machine, leg, states)
        if len(states) == 0:
            return (len(layers) + 1, tuple(layers))
        layers.append(states)
    return None


def is_layer(machine, value):
    """Whether a value is an ascending tuple of states, by their form."""
    return isinstance(value, tuple) and all([is_state(machine, state) for state in value]) and is_ascending(value)


def are_layers(machine, many, value):
    """Whether a value is so many layers."""
    return isinstance(value, tuple) and len(value) == many and all([is_layer(machine, layer) for layer in value])


def shows_stuck(machine, watch, journal, value):
    """Whether a value is (k, layers) that show that no run of k turns has the journal's first k marks."""
    legs = legs_of(machine, watch, journal)
    if not isinstance(value, tuple) or len(value) != 2:
        return False
    many, layers = value
    if not is_integer_in(many, 1, len(legs)) or not are_layers(machine, many - 1, layers):
        return False
    ahead = (BEGINNING,)
    for leg, layer in zip(legs, layers):
        if not all([state in layer for state in states_behind(machine, leg, ahead)]):
            return False
        ahead = layer
    return len(states_behind(machine, legs[many - 1], ahead)) == 0
