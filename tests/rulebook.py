"""Rules that tests use: some by hand, others made up."""

import random

from oracle import marks_that_may_be
from samples import EXAMPLE
from seldomseen.machines import Machine
from seldomseen.rules import Rule

# Follows what p's mark and q's tell: to q if q alone was touched, back to p otherwise.
FOLLOWING = Rule(EXAMPLE, (('p', 'q'),), ((0, ('p',), (0, 1, 0, 1)), (0, ('q',), (1, 1, 0, 0))))
STILL = Rule(EXAMPLE, ((),), ((0, ('p',), (0,)),))


def made_up(machine, watch, chance, states):
    """A rule with about so many states, at least one of each place."""
    places = list(range(len(machine.clock)))
    rest = places[1:] + [chance.choice(places) for _ in range(states - len(places))]
    chance.shuffle(rest)
    order = [0] + rest
    told = []
    for number, place in enumerate(order):
        later = [k for k, other in enumerate(order) if other == (place + 1) % len(places)]
        answers = tuple(chance.choice(later) for _ in marks_that_may_be(watch, place))
        told.append((place, machine.first if number == 0 else chance.choice(machine.sets), answers))
    return Rule(machine, watch, tuple(told))


def doubled(rule, chance, more=2):
    """A rule that has the same sets with some states twice, in another order behind the first one."""
    states = list(rule.states)
    copies = [k for k in range(len(states))] + [chance.randrange(len(states)) for _ in range(min(more, 12 - len(states)))]
    order = [0] + chance.sample(range(1, len(copies)), len(copies) - 1)
    chosen = [copies[k] for k in order]
    told = []
    for old in chosen:
        place, set_there, answers = states[old]
        told.append((place, set_there, tuple(
            chance.choice([k for k, other in enumerate(chosen) if other == answer]) for answer in answers)))
    return Rule(rule.machine, rule.watch, tuple(told))


def some_rules(machine, watch, many, seed):
    chance = random.Random(seed)
    return [made_up(machine, watch, chance, chance.randrange(len(machine.clock), 7)) for _ in range(many)]


def small_machine(chance, most_steps=4, most_pages=4, most_turns=3, most_ticks=3, most_move=9):
    """A machine of few steps, which may come to an end."""
    names = chance.sample('abcdefgh', chance.randrange(1, most_steps + 1))
    pages = ('p', 'q', 'r', 's')[:chance.randrange(2, most_pages + 1)]
    steps = []
    for number, name in enumerate(names):
        most = min(3, len(names))
        many = chance.randrange(1 if number == 0 or chance.random() < 0.7 else 0, most + 1)
        steps.append((name, chance.choice(pages + (None,)), tuple(sorted(chance.sample(names, many)))))
    clock = tuple(chance.randrange(1, most_ticks + 1) for _ in range(chance.randrange(1, most_turns + 1)))
    first = tuple(sorted(chance.sample(pages, chance.randrange(1, len(pages)))))
    return Machine(tuple(steps), clock, pages, chance.choice([0, 1, 1, 2, 3, most_move][:most_move + 2]), first)


def small_watch(chance, machine):
    return tuple(tuple(sorted(chance.sample(machine.pages, chance.randrange(len(machine.pages) + 1))))
                 for _ in machine.clock)


def small_rules(many, seed, **sizes):
    """Rules of small machines, of different watches."""
    chance = random.Random(seed)
    found = []
    for _ in range(many):
        machine = small_machine(chance, **sizes)
        states = chance.randrange(len(machine.clock), len(machine.clock) + 3)
        found.append(made_up(machine, small_watch(chance, machine), chance, states))
    return found


def chasing(machine):
    """A rule that sees all marks and brings in what was touched, if there is room for it."""
    many, size, watch = len(machine.clock), len(machine.first), (machine.pages,) * len(machine.clock)
    order = [(0, machine.first)]
    order += [state for place in range(many) for state in [(place, chosen) for chosen in machine.sets]
              if state != order[0]]
    told = []
    for place, chosen in order:
        answers = []
        for marks in marks_that_may_be(watch, place):
            touched = [page for page, mark in zip(machine.pages, marks) if mark]
            kept = [page for page in chosen if page not in touched]
            after = chosen if len(touched) > size else tuple(sorted((touched + kept)[:size]))
            answers.append(order.index(((place + 1) % many, after)))
        told.append((place, chosen, tuple(answers)))
    return Rule(machine, watch, tuple(told))
