"""Machines and values that several tests use, and the document's words written out once more as plain loops."""

from itertools import product

from seldomseen.machines import Machine

STEPS = (('a', 'p', ('a', 'b')), ('b', 'q', ('a',)))

EXAMPLE = Machine(STEPS, (2,), ('p', 'q'), 1, ('p',))

# Three places, a step without a page, one that nothing follows, a page that no step touches.
MIXED = Machine(
    (('go', 'p', ('end', 'go', 'rest')), ('rest', None, ('go', 'work')), ('work', 'q', ('go', 'rest', 'work')),
     ('end', 's', ())),
    (1, 3, 2), ('p', 'q', 'r', 's'), 2, ('p', 'r'))

# Moves cost nothing, or more than they ever save.
FREE = Machine((('x', 'a', ('y', 'z')), ('y', 'b', ('x', 'z')), ('z', 'c', ('x', 'y'))), (1, 2), ('a', 'b', 'c'), 0,
               ('b',))
DEAR = Machine((('x', 'a', ('y', 'z')), ('y', 'b', ('x', 'z')), ('z', 'c', ('x', 'y'))), (1,), ('a', 'b', 'c'), 9,
               ('a', 'b'))
CHEAP = Machine((('x', 'a', ('x', 'y')), ('y', 'b', ('y', 'z')), ('z', 'c', ('x', 'y', 'z'))), (2, 1), ('a', 'b', 'c'),
                1, ('a',))

MACHINES = (EXAMPLE, MIXED, FREE, DEAR, CHEAP)


def nested(depth, make=lambda value: (value,), value='a'):
    for _ in range(depth):
        value = make(value)
    return value


ANY_VALUES = (
    None, True, False, 0, 1, 2, -1, 10, 24, 25, 10 ** 17, -10 ** 17, '', 'a', 'p', 'A', 'a b', 'ab\n', 'a' * 20000,
    (), [], {}, (None,), [None], (True,), (0,), ('a',), ['a'], ('p',), ['p'], {'a': 1}, {'p': ()}, ((),), ([],), ({},),
    ('a', 1), ('a', None), ('a', ['b']), ('a', {'b': 'a'}), (('a', 'p', ()),), [('a', 'p', ())],
    nested(40), nested(40, lambda value: [value]), nested(40, lambda value: {'a': value}), (nested(39), [], {}))


def turns_by_tick(machine, run):
    """The parts of a run, found tick by tick."""
    parts, left = [], 0
    for name in run:
        if left == 0:
            left = machine.clock[len(parts) % len(machine.clock)]
            parts.append(())
        parts[-1] += (name,)
        left -= 1
    return parts


def slow_in(machine, part, chosen):
    table = {name: page for name, page, _ in machine.steps}
    return sum(1 for name in part if table[name] is not None and table[name] not in chosen)


def moved(machine, one, other):
    return machine.move * len(set(other) - set(one))


def price_of(machine, run, sets):
    parts = turns_by_tick(machine, run)
    total = sum(slow_in(machine, parts[k], sets[k]) for k in range(len(parts)))
    return total + sum(moved(machine, sets[k - 1], sets[k]) for k in range(1, len(parts)))


def all_rows(machine, run):
    many = len(turns_by_tick(machine, run))
    return [(machine.first,) + rest for rest in product(machine.sets, repeat=many - 1)]


def are_shown(machine, run, value, heights):
    """What the document asks of heights, row by row."""
    parts = turns_by_tick(machine, run)
    last = len(parts) - 1
    if type(heights) is not tuple:
        return False
    for row in heights:
        if type(row) is not tuple or len(row) != 3 or type(row[0]) is not int or type(row[2]) is not int:
            return False
        if not 0 <= row[0] <= last or row[1] not in machine.sets:
            return False
    if list(heights) != sorted(heights) or len({row[:2] for row in heights}) != len(heights):
        return False
    start = slow_in(machine, parts[0], machine.first)
    if not any(row[:2] == (0, machine.first) and row[2] <= start for row in heights):
        return False
    for turn, chosen, height in heights:
        if turn == last:
            if height < value:
                return False
            continue
        for other in machine.sets:
            most = height + moved(machine, chosen, other) + slow_in(machine, parts[turn + 1], other)
            if not any(row[:2] == (turn + 1, other) and row[2] <= most for row in heights):
                return False
    return True
