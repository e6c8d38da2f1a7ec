"""What sections 6 to 9 say, written out once more: tick by tick, and over lists of all runs."""

from functools import lru_cache
from itertools import product

from samples import CHEAP, DEAR, EXAMPLE, FREE, MIXED
from seldomseen.machines import Machine

# Comes to an end behind three ticks, or goes round; the first step is not the least.
ENDING = Machine((('m', 'q', ('b', 'm')), ('b', 'p', ('z',)), ('z', None, ())), (2, 1), ('p', 'q'), 1, ('q',))
LINE = Machine((('a', 'p', ('b',)), ('b', 'q', ('c',)), ('c', 'p', ())), (1,), ('p', 'q', 'r'), 0, ('p', 'q'))

# Watches that see nothing, all, some pages at one place only, and others there.
WATCHED = (
    (EXAMPLE, (((),), (('p',),), (('q',),), (('p', 'q'),))),
    (MIXED, (((), (), ()), (('p', 'q', 'r', 's'),) * 3, (('q',), (), ('p', 's')), ((), ('p', 'q'), ()),
             ((), (), ('q', 'r')))),
    (FREE, (((), ()), (('a', 'b', 'c'), ('a', 'b', 'c')), (('a',), ('b',)), ((), ('a', 'c')), (('b',), ()))),
    (DEAR, (((),), (('a',),), (('b', 'c'),), (('a', 'b', 'c'),))),
    (CHEAP, (((), ()), (('a', 'b', 'c'), ('a', 'b', 'c')), (('c',), ('a',)), (('a', 'c'), ()), ((), ('b',)))),
    (ENDING, (((), ()), (('p',), ('q',)), (('p', 'q'), ('p', 'q')), ((), ('p',)))),
    (LINE, (((),), (('p',),), (('p', 'q', 'r'),))))


@lru_cache(maxsize=None)
def steps_by_name(steps):
    return {name: (page, following) for name, page, following in steps}


def page_of(machine, name):
    return steps_by_name(machine.steps)[name][0]


def next_of(machine, name):
    if name is None:
        return (machine.steps[0][0],)
    return steps_by_name(machine.steps)[name][1]


def ticks_in(machine, turn):
    return machine.clock[turn % len(machine.clock)]


def total_ticks(machine, turns):
    return sum(ticks_in(machine, turn) for turn in range(turns))


def marks_by_tick(machine, watch, run):
    """(marks, unseen pages), with a set of the pages touched since, one tick at a time."""
    found, since, turn, left = [], set(), 0, ticks_in(machine, 0)
    for name in run:
        if page_of(machine, name) is not None:
            since.add(page_of(machine, name))
        left -= 1
        if left == 0:
            watched = watch[turn % len(watch)]
            found.append(tuple(page in since for page in watched))
            since -= set(watched)
            turn += 1
            left = ticks_in(machine, turn)
    return tuple(found), tuple(sorted(since))


KEPT = {}


def runs_by_journal(machine, watch, turns):
    """All runs of so many whole turns, ascending, by the journal that they fit."""
    key = (machine.steps, machine.clock, watch, turns)
    if key not in KEPT:
        KEPT[key] = {}
        for run in machine.runs(total_ticks(machine, turns)):
            KEPT[key].setdefault(marks_by_tick(machine, watch, run)[0], []).append(run)
    return KEPT[key]


def runs_that_fit(machine, watch, journal):
    return runs_by_journal(machine, watch, len(journal)).get(journal, [])


def marks_that_may_be(watch, turn):
    return list(product((False, True), repeat=len(watch[turn % len(watch)])))


def journals_of(watch, turns):
    """All journals of so many turns, also those that no run fits."""
    return list(product(*[marks_that_may_be(watch, turn) for turn in range(turns)]))


def cases(most_ticks=6, most_journals=24):
    """(machine, watch, journal): some of all journals of each number of turns with so few ticks."""
    for machine, watches in WATCHED:
        for watch in watches:
            for turns in range(1, 9):
                if total_ticks(machine, turns) > most_ticks:
                    break
                some = journals_of(watch, turns)
                fitting = sorted(runs_by_journal(machine, watch, turns))
                step = max(1, len(some) // most_journals)
                chosen = {*some[::step], *fitting[::max(1, len(fitting) // most_journals)]}
                for journal in sorted(chosen):
                    yield machine, watch, journal


def states_of(machine):
    """All states by their form, ascending."""
    parts = [()]
    for page in machine.pages:
        parts += [part + (page,) for part in parts]
    return sorted((name, part) for name in machine.names for part in parts)


def ways_on(machine, watch, turn, state):
    """All (names, marks, state) through a turn, from a state by its form or from (None, ())."""
    watched = watch[turn % len(watch)]
    open_ways = [((), state[0], frozenset(state[1]))]
    for _ in range(ticks_in(machine, turn)):
        open_ways = [
            (names + (name,), name, since | ({page_of(machine, name)} - {None}))
            for names, last, since in open_ways for name in next_of(machine, last)]
    return [(names, tuple(page in since for page in watched), (last, tuple(sorted(since - set(watched)))))
            for names, last, since in open_ways]


def ways_on_with(machine, watch, journal, turn, state):
    return [(names, after) for names, marks, after in ways_on(machine, watch, turn, state) if marks == journal[turn]]


def is_page_tuple(machine, value):
    return (type(value) is tuple and all(type(page) is str and page in machine.pages for page in value)
            and list(value) == sorted(set(value)))


def is_state_form(machine, value):
    return (type(value) is tuple and len(value) == 2 and type(value[0]) is str and value[0] in machine.names
            and is_page_tuple(machine, value[1]))


def layers_hold(machine, watch, journal, value):
    if type(value) is not tuple or len(value) != 2 or type(value[0]) is not int or type(value[1]) is not tuple:
        return False
    k, layers = value
    if not 1 <= k <= len(journal) or len(layers) != k - 1:
        return False
    for layer in layers:
        if type(layer) is not tuple or not all(is_state_form(machine, state) for state in layer):
            return False
        if list(layer) != sorted(set(layer)):
            return False
    ahead = ((None, ()),)
    for turn in range(k):
        behind = {after for state in ahead for _, after in ways_on_with(machine, watch, journal, turn, state)}
        if turn == k - 1:
            return not behind
        if not behind <= set(layers[turn]):
            return False
        ahead = layers[turn]


def heights_hold(machine, watch, journal, count, greatest, value, heights):
    """Whether heights are as of fewest, or (greatest) of most; count(tick, name) is what a touch there counts."""
    if type(heights) is not tuple:
        return False
    last = len(journal) - 1
    for row in heights:
        if type(row) is not tuple or len(row) != 3 or type(row[0]) is not int or type(row[2]) is not int:
            return False
        if not 0 <= row[0] <= last or not is_state_form(machine, row[1]):
            return False
    if list(heights) != sorted(heights) or len({row[:2] for row in heights}) < len(heights):
        return False
    table = {row[:2]: row[2] for row in heights}
    for turn, state, height in ((-1, (None, ()), 0),) + heights:
        if turn == last:
            if (height > value) if greatest else (height < value):
                return False
            continue
        start = total_ticks(machine, turn + 1)
        for names, after in ways_on_with(machine, watch, journal, turn + 1, state):
            there = table.get((turn + 1, after))
            here = height + sum(count(start + k, name) for k, name in enumerate(names))
            if there is None or ((there < here) if greatest else (there > here)):
                return False
    return True


def counts_from(machine, page, since, until):
    """count(tick, name) of the touches of a page that count."""
    def count(tick, name):
        return int(page_of(machine, name) == page and since <= tick and (until is None or tick < until))
    return count


def times(machine, run, page, since=0, until=None):
    pages = [page_of(machine, name) for name in run]
    return pages[since:until].count(page)


def ticks_ago(machine, run, page):
    pages = [page_of(machine, name) for name in run][::-1]
    return pages.index(page) if page in pages else len(run)


def numbers_by_turn(rule, run):
    """The numbers of a rule's states in the turns of a run and behind it if it is whole, turn by turn."""
    machine, watch = rule.machine, rule.watch
    numbers, since, at, turn = [0], set(), 0, 0
    while at + ticks_in(machine, turn) <= len(run):
        for name in run[at:at + ticks_in(machine, turn)]:
            since.add(page_of(machine, name))
        at += ticks_in(machine, turn)
        watched = watch[turn % len(watch)]
        marks = tuple(page in since for page in watched)
        since -= set(watched)
        numbers.append(rule.states[numbers[-1]][2][marks_that_may_be(watch, turn).index(marks)])
        turn += 1
    return numbers, at == len(run)


def next_sets(rule, run):
    """The set behind a whole run."""
    numbers, whole = numbers_by_turn(rule, run)
    assert whole
    return rule.states[numbers[-1]][1]


def is_pair_form(one, other, row):
    if type(row) is not tuple or len(row) != 5 or type(row[0]) is not int or type(row[1]) is not int:
        return False
    if not 0 <= row[0] < len(one.states) or not 0 <= row[1] < len(other.states):
        return False
    if one.states[row[0]][0] != other.states[row[1]][0]:
        return False
    if row[2] is None:
        return row[:2] == (0, 0) and type(row[3]) is tuple and type(row[4]) is tuple and row[3:] == ((), ())
    machine = one.machine
    return (type(row[2]) is str and row[2] in machine.names
            and is_page_tuple(machine, row[3]) and is_page_tuple(machine, row[4]))


def table_holds(one, other, table):
    """Whether a table shows that two rules are alike."""
    machine = one.machine
    if type(table) is not tuple or not all(is_pair_form(one, other, row) for row in table):
        return False
    if len(set(table)) < len(table) or (0, 0, None, (), ()) not in table:
        return False
    for first, second, step, pages, others in table:
        place, chosen, answers = one.states[first]
        _, also, replies = other.states[second]
        if chosen != also:
            return False
        for (names, marks, (last, left)), (same, signs, (_, rest)) in zip(
                ways_on(machine, one.watch, place, (step, pages)), ways_on(machine, other.watch, place, (step, others))):
            assert names == same
            behind = (answers[marks_that_may_be(one.watch, place).index(marks)],
                      replies[marks_that_may_be(other.watch, place).index(signs)], last, left, rest)
            if next_of(machine, last) and behind not in table:
                return False
    return True
