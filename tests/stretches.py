"""What section 10 says, written out once more: excesses with all rows of sets, tables and rings clause by clause."""

from fractions import Fraction
from itertools import product
from math import gcd

from oracle import is_page_tuple, is_pair_form, marks_that_may_be, next_of, numbers_by_turn, page_of, ticks_in, ways_on
from samples import moved, price_of, slow_in, turns_by_tick

WEIGHTS = [(a, b) for a in range(1, 10) for b in range(1, 10)]


def parts_in(machine, place, step):
    """The names of steps from one tick on up to the whole turn of a place."""
    found, open_ways = [], [((), step)]
    for _ in range(machine.clock[place]):
        open_ways = [(names + (name,), name) for names, last in open_ways for name in next_of(machine, last)]
        found += [names for names, _ in open_ways]
    return found


def paid_in(machine, parts, sets):
    """What turns pay with these sets, and with one more set behind the last one."""
    return (sum(slow_in(machine, parts[k], sets[k]) for k in range(len(parts)))
            + sum(moved(machine, sets[k], sets[k + 1]) for k in range(len(sets) - 1)))


def own_sets(rule, run):
    numbers, whole = numbers_by_turn(rule, run)
    return [rule.states[number][1] for number in numbers][:len(turns_by_tick(rule.machine, run))]


def excess_of(rule, a, b, run, turn):
    machine = rule.machine
    parts, own = turns_by_tick(machine, run)[turn:], own_sets(rule, run)[turn:]
    rows = product([own[0]], *[machine.sets] * (len(parts) - 1))
    return b * paid_in(machine, parts, own) - a * min(paid_in(machine, parts, row) for row in rows)


def greatest_of_short(rule, a, b, most_ticks, many=40):
    """The greatest excess of stretches of runs of so few ticks, some of them only if they are many."""
    found = []
    for length in range(1, most_ticks + 1):
        some = list(rule.machine.runs(length))
        for run in some[::max(1, len(some) // many)]:
            found += [excess_of(rule, a, b, run, turn) for turn in range(len(turns_by_tick(rule.machine, run)))]
    return max(found)


def is_int(value):
    return type(value) is int


def is_set_of(machine, value):
    return type(value) is tuple and value in machine.sets


def is_step_of(machine, value):
    return type(value) is str and value in machine.names


def is_stand_form(rule, value):
    if type(value) is not tuple or len(value) != 4 or not is_int(value[0]) or not 0 <= value[0] < len(rule.states):
        return False
    if value[1] is None:
        return value == (0, None, (), rule.machine.first)
    machine = rule.machine
    return is_step_of(machine, value[1]) and is_page_tuple(machine, value[2]) and is_set_of(machine, value[3])


def none_first(stand):
    return tuple((part is not None, part) for part in stand)


def rows_hold(table, is_form):
    """Whether a table has rows of a form, heights that are integers, no stand twice, and ascends."""
    if type(table) is not tuple:
        return False
    for row in table:
        if type(row) is not tuple or len(row) != 2 or not is_form(row[0]) or not is_int(row[1]):
            return False
    stands = [none_first(stand) for stand, _ in table]
    return all(stands[k] < stands[k + 1] for k in range(len(stands) - 1))


def behind(machine, watch, answers, place, step, pages):
    """(names, next number, last step, pages) of the whole turns."""
    for names, marks, (last, left) in ways_on(machine, watch, place, (step, pages)):
        yield names, answers[marks_that_may_be(watch, place).index(marks)], last, left


def bound_table_holds(rule, a, b, d, table):
    machine = rule.machine
    if not rows_hold(table, lambda value: is_stand_form(rule, value)):
        return False
    heights = dict(table)
    if heights.get((0, None, (), machine.first), -1) < 0:
        return False
    for (number, step, pages, other), height in table:
        place, own, answers = rule.states[number]
        for names in parts_in(machine, place, step):
            if height + b * slow_in(machine, names, own) - a * slow_in(machine, names, other) > d:
                return False
        for names, after, last, left in behind(machine, rule.watch, answers, place, step, pages):
            end = height + b * slow_in(machine, names, own) - a * slow_in(machine, names, other)
            following = rule.states[after][1]
            for chosen in machine.sets:
                there = heights.get((after, last, left, chosen))
                if there is None:
                    return False
                if there < end + b * moved(machine, own, following) - a * moved(machine, other, chosen):
                    return False
            if heights[(after, last, left, following)] < 0:
                return False
    return True


def stands_in(rule, run):
    """(number, last step, pages) at the beginning of each turn of a whole run and behind it."""
    machine, watch = rule.machine, rule.watch
    numbers, _ = numbers_by_turn(rule, run)
    found, since, at = [(0, None, ())], set(), 0
    for turn, part in enumerate(turns_by_tick(machine, run)):
        since |= {page_of(machine, name) for name in part} - {None}
        since -= set(watch[turn % len(watch)])
        at += len(part)
        found.append((numbers[turn + 1], run[at - 1], tuple(sorted(since))))
    return found


def is_whole_run(machine, run):
    if not machine.is_run(run):
        return False
    parts = turns_by_tick(machine, run)
    return len(parts[-1]) == ticks_in(machine, len(parts) - 1)


def are_turns(machine, run, first, last):
    return is_int(first) and is_int(last) and 0 <= first < last <= len(turns_by_tick(machine, run))


def are_sets(machine, many, sets):
    return type(sets) is tuple and len(sets) == many and all(is_set_of(machine, chosen) for chosen in sets)


def bound_ring_holds(rule, a, b, run, first, last, sets):
    machine = rule.machine
    if not is_whole_run(machine, run) or not are_turns(machine, run, first, last):
        return False
    if not are_sets(machine, last - first + 1, sets) or sets[0] != sets[-1]:
        return False
    stands = stands_in(rule, run)
    if stands[first] != stands[last]:
        return False
    own = [rule.states[number][1] for number, _, _ in stands[first:last + 1]]
    parts = turns_by_tick(machine, run)[first:last]
    return b * paid_in(machine, parts, own) > a * paid_in(machine, parts, sets)


def bound_most_holds(rule, a, b, d, run, turn, sets, table):
    machine = rule.machine
    if not is_int(d) or not machine.is_run(run) or not is_int(turn):
        return False
    parts, own = turns_by_tick(machine, run), own_sets(rule, run)
    if not 0 <= turn < len(parts) or not are_sets(machine, len(parts) - turn, sets) or sets[0] != own[turn]:
        return False
    if b * paid_in(machine, parts[turn:], own[turn:]) - a * paid_in(machine, parts[turn:], sets) != d:
        return False
    return bound_table_holds(rule, a, b, d, table)


def bound_holds(rule, a, b, value):
    """Whether a value is a bound as the document says it."""
    if type(value) is tuple and len(value) == 6 and type(value[0]) is str and value[0] == 'most':
        return bound_most_holds(rule, a, b, *value[1:])
    if type(value) is tuple and len(value) == 5 and type(value[0]) is str and value[0] == 'grows':
        return bound_ring_holds(rule, a, b, *value[1:])
    return False


def least_paid(machine, parts, chosen):
    """The least that any sets pay in these turns that begin with this one, turn by turn."""
    ahead = {chosen: slow_in(machine, parts[0], chosen)}
    for part in parts[1:]:
        ahead = {after: min(paid + moved(machine, other, after) for other, paid in ahead.items())
                 + slow_in(machine, part, after) for after in machine.sets}
    return min(ahead.values())


def pays_least(rule, a, b, run, turn, sets):
    """Whether no sets that begin with the rule's own one pay less in a stretch."""
    parts = turns_by_tick(rule.machine, run)[turn:]
    return paid_in(rule.machine, parts, sets) == least_paid(rule.machine, parts, sets[0])


def excess_by_turns(rule, a, b, run, turn):
    """The excess of a stretch, of runs that are too long for all rows of sets."""
    parts, own = turns_by_tick(rule.machine, run)[turn:], own_sets(rule, run)[turn:]
    return b * paid_in(rule.machine, parts, own) - a * least_paid(rule.machine, parts, own[0])


def all_fractions():
    """All (a, b) without a common divisor, ascending."""
    return sorted([(a, b) for a, b in WEIGHTS if gcd(a, b) == 1], key=lambda pair: Fraction(*pair))


def versus_table_holds(one, other, a, b, d, table):
    machine = one.machine
    if not rows_hold(table, lambda value: is_pair_form(one, other, value)):
        return False
    heights = dict(table)
    if heights.get((0, 0, None, (), ()), -1) < 0:
        return False
    for (number, beside, step, pages, others), height in table:
        place, own, answers = one.states[number]
        _, also, replies = other.states[beside]
        for names in parts_in(machine, place, step):
            if height + b * slow_in(machine, names, own) - a * slow_in(machine, names, also) > d:
                return False
        for (names, after, last, left), (same, next_to, _, rest) in zip(
                behind(machine, one.watch, answers, place, step, pages),
                behind(machine, other.watch, replies, place, step, others)):
            assert names == same
            there = heights.get((after, next_to, last, left, rest))
            end = height + b * slow_in(machine, names, own) - a * slow_in(machine, names, also)
            end += b * moved(machine, own, one.states[after][1]) - a * moved(machine, also, other.states[next_to][1])
            if there is None or there < end:
                return False
    return True


def versus_ring_holds(one, other, a, b, run, first, last):
    machine = one.machine
    if not is_whole_run(machine, run) or not are_turns(machine, run, first, last):
        return False
    parts, paid = turns_by_tick(machine, run)[first:last], []
    for rule in (one, other):
        stands = stands_in(rule, run)
        if stands[first] != stands[last]:
            return False
        paid.append(paid_in(machine, parts, [rule.states[number][1] for number, _, _ in stands[first:last + 1]]))
    return b * paid[0] > a * paid[1]


def lead_in(one, other, a, b, run):
    """By how much the first rule is dearer in a run."""
    machine = one.machine
    return b * price_of(machine, run, own_sets(one, run)) - a * price_of(machine, run, own_sets(other, run))


def versus_holds(one, other, a, b, value):
    """Whether a value is as that of versus as the document says it."""
    if type(value) is not tuple or len(value) != 4 or type(value[0]) is not str:
        return False
    if value[0] == 'grows':
        return versus_ring_holds(one, other, a, b, *value[1:])
    if value[0] != 'most' or not is_int(value[1]) or not one.machine.is_run(value[2]):
        return False
    return lead_in(one, other, a, b, value[2]) == value[1] and versus_table_holds(one, other, a, b, value[1], value[3])
