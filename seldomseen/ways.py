"""Ways through a turn: the steps that can be taken in it, the marks that they show, and where they lead.

A state is (last step, pages touched and not seen), behind a turn.
"""

from seldomseen.common import are_pages_of
from seldomseen.watches import marks_of, with_touches, without_seen

# Where a run stands ahead of its first step.
BEGINNING = (None, ())


def is_state(machine, value):
    """Whether a value has the form of a state behind a turn."""
    if not isinstance(value, tuple) or len(value) != 2:
        return False
    return value[0] in machine.names and are_pages_of(machine, value[1])


def steps_behind(machine, step):
    """The steps that may be taken behind this one, ascending; behind None, as a run begins."""
    if step is None:
        return machine.names[:1]
    return machine.following(step)


def names_within(machine, ticks, step):
    """For each tick of a turn behind this step the names of steps on all ways up to it and with it, ascending."""
    found = [[(name,) for name in steps_behind(machine, step)]]
    for _ in range(ticks - 1):
        found.append([(*names, name) for names in found[-1] for name in machine.following(names[-1])])
    return found


def names_through(machine, ticks, step):
    """The names of steps on all ways through a turn of so many ticks behind this step, ascending."""
    return names_within(machine, ticks, step)[-1]


def names_into(machine, ticks, step):
    """The names of steps on all ways of one or more ticks into a turn: a run may end at each tick."""
    return [names for layer in names_within(machine, ticks, step) for names in layer]


def marked_ways(machine, ticks, watched, state):
    """(names, marks, state) of all ways through a turn behind which these pages are seen, ascending by the names."""
    step, pages = state
    found = []
    for names in names_through(machine, ticks, step):
        touched = with_touches(machine, pages, names)
        found.append((names, marks_of(watched, touched), (names[-1], without_seen(watched, touched))))
    return found
