"""What several files of the package ask of values, and how a run falls into turns."""

from seldomseen.errors import BadRun

LETTERS = "abcdefghijklmnopqrstuvwxyz"
LONGEST_NAME = 8


def is_integer(value):
    """Whether a value is an integer, which a bool is not here, though Python has it so."""
    return isinstance(value, int) and not isinstance(value, bool)


def is_integer_in(value, least, greatest):
    """Whether a value is an integer from least to greatest."""
    return is_integer(value) and least <= value <= greatest


def is_name(value):
    """Whether a value is a name: 1 to 8 letters a to z."""
    if not isinstance(value, str) or not 1 <= len(value) <= LONGEST_NAME:
        return False
    return all([letter in LETTERS for letter in value])


def is_ascending(values):
    """Whether values of one kind ascend, none of them twice."""
    return all([one < other for one, other in zip(values, values[1:])])


def are_ascending_names(value):
    """Whether a value is an ascending tuple of names, perhaps of none."""
    # Only names are compared: other values may have no order.
    return isinstance(value, tuple) and all([is_name(name) for name in value]) and is_ascending(value)


def are_pages_of(machine, value):
    """Whether a value is an ascending tuple of pages of the machine, perhaps of none."""
    return are_ascending_names(value) and all([page in machine.pages for page in value])


def place_of(machine, number):
    """The place on the machine's clock of the turn of this number."""
    return number % len(machine.clock)


def turns_of(machine, run):
    """The names of a run in each turn that it has, in order; raises BadRun of what is no run."""
    if not machine.is_run(run):
        raise BadRun(run)
    turns = []
    start = 0
    while start < len(run):
        ticks = machine.clock[place_of(machine, len(turns))]
        # The slice ends with the run, so the last turn may be cut short.
        turns.append(run[start:start + ticks])
        start += ticks
    return turns


def is_whole(machine, run):
    """Whether the last turn of a run is not cut short; raises BadRun of what is no run."""
    turns = turns_of(machine, run)
    return len(turns[-1]) == machine.clock[place_of(machine, len(turns) - 1)]
