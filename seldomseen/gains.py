"""What sets gain on others: b times what the one side pays less a times what the other one pays.

The weights are (a, b). What gains is dearer: it is the excess of a stretch that grows by it.
"""

from seldomseen.common import is_integer_in
from seldomseen.errors import BadWeight
from seldomseen.prices import moving, slow_touches
from seldomseen.ways import names_into


def check_weights(a, b, greatest):
    """Raise BadWeight for a, then for b, of what is no integer from 1 to greatest."""
    for weight in (a, b):
        if not is_integer_in(weight, 1, greatest):
            raise BadWeight(weight)


def gain_of(weights, one, other):
    """What it gains that the one side pays so much and the other one so much."""
    a, b = weights
    return b * one - a * other


def gain_within(machine, weights, names, own, other):
    """What these steps of a turn gain with a set on the one side and a set on the other one."""
    return gain_of(weights, slow_touches(machine, names, own), slow_touches(machine, names, other))


def gain_behind(machine, weights, owns, others):
    """What is gained behind a turn, of each side the set in it and the next one."""
    return gain_of(weights, moving(machine, owns[0], owns[1]), moving(machine, others[0], others[1]))


def peak_within(machine, weights, place, step, own, other):
    """(gain, names) of the highest tick in a turn of this place behind a step, None if nothing follows the step."""
    found = names_into(machine, machine.clock[place], step)
    return max([(gain_within(machine, weights, names, own, other), names) for names in found], default=None)
