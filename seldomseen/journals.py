"""Journals: the marks that were seen turn by turn, and the ways through these turns that have them.

A leg stands for a turn of a journal: (first tick, ticks, watched pages, marks seen).
"""

from seldomseen.common import place_of
from seldomseen.errors import BadJournal
from seldomseen.watches import check_watch
from seldomseen.ways import marked_ways

MOST_SEEN = 8


def are_marks(watched, value):
    """Whether a value is marks of the watched pages."""
    if not isinstance(value, tuple) or len(value) != len(watched):
        return False
    return all([isinstance(mark, bool) for mark in value])


def is_journal(machine, watch, value):
    """Whether a value is a journal of this watch of the machine."""
    if not isinstance(value, tuple) or not 1 <= len(value) <= MOST_SEEN:
        return False
    return all([are_marks(watch[place_of(machine, number)], marks) for number, marks in enumerate(value)])


def check_journal(machine, watch, journal):
    """Raise BadWatch of what is no watch, then BadJournal of what is no journal of it."""
    check_watch(machine, watch)
    if not is_journal(machine, watch, journal):
        raise BadJournal(journal)


def legs_of(machine, watch, journal):
    """The legs of a journal; raises BadWatch, BadJournal."""
    check_journal(machine, watch, journal)
    legs = []
    start = 0
    for number, marks in enumerate(journal):
        place = place_of(machine, number)
        legs.append((start, machine.clock[place], watch[place], marks))
        start += machine.clock[place]
    return legs


def ticks_of(legs):
    """The number of ticks of all these legs."""
    start, ticks, watched, marks = legs[-1]
    return start + ticks


def ways_with(machine, leg, state):
    """(names, state) of the ways through a leg that have its marks, ascending by the names."""
    start, ticks, watched, marks = leg
    return [(names, after) for names, found, after in marked_ways(machine, ticks, watched, state) if found == marks]


def states_behind(machine, leg, states):
    """The ascending tuple of the states to which a leg leads from these states."""
    return tuple(sorted(set([after for state in states for names, after in ways_with(machine, leg, state)])))
