"""What someone who sees marks alone can know, and what comes of it behind the next turn.

A knowledge is an ascending tuple of ((step, pages, set), excess). A case is (place, set, knowledge): the set that is
had in a turn of this place, and what is known.
"""

from seldomseen.climbs import place_in_table
from seldomseen.common import are_pages_of, is_ascending, is_integer
from seldomseen.gains import gain_behind, gain_within, peak_within
from seldomseen.ways import marked_ways


def known_beginning(machine):
    """What is known at the beginning of a run."""
    return (((None, (), machine.first), 0),)


def least_excess(machine, weights):
    """The excess to which lesser ones are raised: a stretch that begins now does no less."""
    a, b = weights
    return -a * (2 + machine.move * len(machine.first))


def is_known_stand(machine, value):
    """Whether a value has the form (step, pages, set)."""
    if not isinstance(value, tuple) or len(value) != 3:
        return False
    step, pages, other = value
    if step is None:
        return value == (None, (), machine.first)
    return step in machine.names and are_pages_of(machine, pages) and other in machine.sets


def is_known_row(machine, least, value):
    """Whether a value has the form ((step, pages, set), excess), the excess not below the least one."""
    if not isinstance(value, tuple) or len(value) != 2:
        return False
    return is_known_stand(machine, value[0]) and is_integer(value[1]) and value[1] >= least


def is_knowledge(machine, weights, value):
    """Whether a value is a knowledge, by its form."""
    if not isinstance(value, tuple):
        return False
    least = least_excess(machine, weights)
    if not all([is_known_row(machine, least, row) for row in value]):
        return False
    return is_ascending([place_in_table(stand) for stand, excess in value])


def peak_of(machine, weights, case):
    """(excess, row, steps): the greatest excess at any tick of the turn, and what leads there; None without a tick."""
    place, own, knowledge = case
    found = []
    for number, ((step, pages, other), excess) in enumerate(knowledge):
        peak = peak_within(machine, weights, place, step, own, other)
        if peak is not None:
            found.append((excess + peak[0], number, peak[1]))
    return max(found, default=None)


def ends_by_marks(machine, watch, weights, case):
    """For all marks that can be seen behind the turn: the greatest excess of each (step, pages, set), without moves."""
    place, own, knowledge = case
    found = {}
    for (step, pages, other), excess in knowledge:
        for names, marks, (last, left) in marked_ways(machine, machine.clock[place], watch[place], (step, pages)):
            ends = found.setdefault(marks, {})
            reached = excess + gain_within(machine, weights, names, own, other)
            ends[(last, left, other)] = max(ends.get((last, left, other), reached), reached)
    return found


def excesses_behind(machine, weights, own, chosen, ends):
    """The greatest excess of each (step, pages, set) at the beginning of the next turn, if this set is chosen there."""
    least = least_excess(machine, weights)
    found = {}
    for (last, left, other), excess in ends.items():
        for after in machine.sets:
            # With the chosen set itself a stretch may begin there, at 0.
            lowest = 0 if after == chosen else least
            moved = excess + gain_behind(machine, weights, (own, chosen), (other, after))
            stand = (last, left, after)
            found[stand] = max(found.get(stand, lowest), moved)
    return found


def as_knowledge(excesses):
    """Excesses by (step, pages, set) as a knowledge."""
    return tuple([(stand, excesses[stand]) for stand in sorted(list(excesses))])
