"""What the sets of a run's turns cost, and the least that any could."""

from seldomseen.common import is_ascending, is_integer, is_integer_in, turns_of
from seldomseen.errors import BadSets


def slow_touches(machine, turn, chosen):
    """How many touches of a turn, given by its names, are slow with this set."""
    pages = [machine.page(name) for name in turn]
    return len([page for page in pages if page is not None and page not in chosen])


def moving(machine, one, other):
    """What it costs to go from one set to another one."""
    return machine.move * len([page for page in other if page not in one])


def is_row(machine, many, value):
    """Whether a value is a row of sets for a run that has so many turns."""
    if not isinstance(value, tuple) or len(value) != many or value[0] != machine.first:
        return False
    return all([chosen in machine.sets for chosen in value])


def total_price(machine, turns, sets):
    """What turns, given by their names, cost with these sets; if there is one more set, with the moves to it, too."""
    slow = sum([slow_touches(machine, turn, chosen) for turn, chosen in zip(turns, sets)])
    return slow + sum([moving(machine, one, other) for one, other in zip(sets, sets[1:])])


def price(machine, run, sets):
    """What a run costs with this row of sets."""
    turns = turns_of(machine, run)
    if not is_row(machine, len(turns), sets):
        raise BadSets(sets)
    return total_price(machine, turns, sets)


def cheapest_with(machine, rows, turn, chosen):
    """The cheapest (price, row) that adds this set for the next turn to one of these (price, row)."""
    cost, row = min([(cost + moving(machine, row[-1], chosen), row) for cost, row in rows])
    return (cost + slow_touches(machine, turn, chosen), (*row, chosen))


def best(machine, run):
    """(value, sets, heights): the least price, the least row that has it, and what shows it."""
    turns = turns_of(machine, run)
    # For each set with which a row may end, the least of the cheapest rows is all that is needed further on.
    rows = [(slow_touches(machine, turns[0], machine.first), (machine.first,))]
    heights = [(0, machine.first, rows[0][0])]
    for number, turn in enumerate(turns[1:], start=1):
        rows = [cheapest_with(machine, rows, turn, chosen) for chosen in machine.sets]
        heights.extend([(number, row[-1], cost) for cost, row in rows])
    value, sets = min(rows)
    return (value, sets, tuple(heights))


def is_height(machine, many, value):
    """Whether a value has the form (turn, set, height) for a run that has so many turns."""
    if not isinstance(value, tuple) or len(value) != 3:
        return False
    number, chosen, height = value
    return is_integer_in(number, 0, many - 1) and chosen in machine.sets and is_integer(height)


def are_heights(machine, many, value):
    """Whether a value is an ascending tuple of (turn, set, height), no turn and set twice."""
    if not isinstance(value, tuple) or not all([is_height(machine, many, row) for row in value]):
        return False
    return is_ascending([row[:2] for row in value])


def leads_on(machine, turns, table, row):
    """Whether each set has a height in the next turn that this row, of a turn with a next one, allows."""
    number, chosen, height = row
    for other in machine.sets:
        if (number + 1, other) not in table:
            return False
        most = height + moving(machine, chosen, other) + slow_touches(machine, turns[number + 1], other)
        if table[(number + 1, other)] > most:
            return False
    return True


def shows_best(machine, run, value, heights):
    """Whether these are heights that show that no row of sets for the run costs less than value."""
    turns = turns_of(machine, run)
    if not is_integer(value) or not are_heights(machine, len(turns), heights):
        return False
    table = {(number, chosen): height for number, chosen, height in heights}
    begin = (0, machine.first)
    if begin not in table or table[begin] > slow_touches(machine, turns[0], machine.first):
        return False
    last = len(turns) - 1
    for row in heights:
        if row[0] == last and row[2] < value:
            return False
        if row[0] < last and not leads_on(machine, turns, table, row):
            return False
    return True
