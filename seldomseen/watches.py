"""Watches: which marks are seen behind which turns, and what a run shows by them."""

from seldomseen.common import are_pages_of, place_of, turns_of
from seldomseen.errors import BadWatch


def is_watch(machine, value):
    """Whether a value is a watch of the machine: the pages whose marks are seen, for each place."""
    if not isinstance(value, tuple) or len(value) != len(machine.clock):
        return False
    return all([are_pages_of(machine, watched) for watched in value])


def check_watch(machine, watch):
    """Raise BadWatch of what is no watch of the machine."""
    if not is_watch(machine, watch):
        raise BadWatch(watch)


def with_touches(machine, pages, names):
    """The ascending tuple of these pages and of those that these steps touch."""
    touched = [machine.page(name) for name in names]
    return tuple([page for page in machine.pages if page in pages or page in touched])


def marks_of(watched, pages):
    """The marks of the watched pages, if just these pages were touched since."""
    return tuple([page in pages for page in watched])


def all_marks(watched):
    """All tuples of marks of these pages, ascending."""
    found = [()]
    for _ in watched:
        found = [(*marks, mark) for marks in found for mark in (False, True)]
    return found


def without_seen(watched, pages):
    """Those of these pages whose marks stay, since they are not seen."""
    return tuple([page for page in pages if page not in watched])


def seen_and_unseen(machine, watch, run):
    """The marks seen behind the whole turns of a run, and the pages touched and not seen behind it."""
    check_watch(machine, watch)
    found = []
    pages = ()
    for number, turn in enumerate(turns_of(machine, run)):
        place = place_of(machine, number)
        pages = with_touches(machine, pages, turn)
        # Behind a turn that is cut short nothing is seen.
        if len(turn) == machine.clock[place]:
            found.append(marks_of(watch[place], pages))
            pages = without_seen(watch[place], pages)
    return (tuple(found), pages)


def seen(machine, watch, run):
    """The tuple of the tuples of marks seen behind the whole turns of a run."""
    return seen_and_unseen(machine, watch, run)[0]


def unseen(machine, watch, run):
    """The ascending tuple of the pages touched since their marks were seen last, behind the run."""
    return seen_and_unseen(machine, watch, run)[1]


def coarser(machine, one, other):
    """Whether the other watch sees all that the first one sees, at each place."""
    check_watch(machine, one)
    check_watch(machine, other)
    return all([page in more for fewer, more in zip(one, other) for page in fewer])
