"""Rules that tests use: some by hand, others made up."""

import random

from oracle import marks_that_may_be
from samples import EXAMPLE
from seldomseen.rules import Rule

# Follows what p's mark and q's tell: to q if q alone was touched, back to p otherwise.
FOLLOWING = Rule(EXAMPLE, (('p', 'q'),), ((0, ('p',), (0, 1, 0, 1)), (0, ('q',), (1, 1, 0, 0))))
STILL = Rule(EXAMPLE, ((),), ((0, ('p',), (0,)),))


def made_up(machine, watch, chance, states):
    """A rule with about so many states, at least one of each place."""
    places = list(range(len(machine.clock)))
    rest = places[1:] + [chance.choice(places) for _ in range(states - len(places))]
    chance.shuffle(rest)
    order = [0] + rest
    told = []
    for number, place in enumerate(order):
        later = [k for k, other in enumerate(order) if other == (place + 1) % len(places)]
        answers = tuple(chance.choice(later) for _ in marks_that_may_be(watch, place))
        told.append((place, machine.first if number == 0 else chance.choice(machine.sets), answers))
    return Rule(machine, watch, tuple(told))


def doubled(rule, chance, more=2):
    """A rule that has the same sets with some states twice, in another order behind the first one."""
    states = list(rule.states)
    copies = [k for k in range(len(states))] + [chance.randrange(len(states)) for _ in range(min(more, 12 - len(states)))]
    order = [0] + chance.sample(range(1, len(copies)), len(copies) - 1)
    chosen = [copies[k] for k in order]
    told = []
    for old in chosen:
        place, set_there, answers = states[old]
        told.append((place, set_there, tuple(
            chance.choice([k for k, other in enumerate(chosen) if other == answer]) for answer in answers)))
    return Rule(rule.machine, rule.watch, tuple(told))


def some_rules(machine, watch, many, seed):
    chance = random.Random(seed)
    return [made_up(machine, watch, chance, chance.randrange(len(machine.clock), 7)) for _ in range(many)]
