"""What a journal tells of its pages: how often and how long ago they were touched in the runs that fit."""

from seldomseen.common import is_ascending, is_integer, is_integer_in
from seldomseen.costs import cost_of, greatest_so_far, least_run, weighed_turns, weighed_ways
from seldomseen.errors import BadRange, BadSets, NoPage
from seldomseen.fitting import fits
from seldomseen.journals import legs_of, ticks_of
from seldomseen.ways import BEGINNING, is_state


def check_page(machine, page):
    """Raise NoPage of what is no page of the machine."""
    if page not in machine.pages:
        raise NoPage(page)


def counted_ticks(legs, since, until):
    """The ticks of these legs that count; raises BadRange for since, then for until."""
    if not is_integer(since) or since < 0:
        raise BadRange(since)
    if until is None:
        return list(range(since, ticks_of(legs)))
    if not is_integer(until) or until < since:
        raise BadRange(until)
    return list(range(since, min(until, ticks_of(legs))))


def page_weights(machine, legs, page, since, until):
    """The weights with which the touches of a page are counted; raises NoPage, BadRange."""
    check_page(machine, page)
    return {(tick, page): 1 for tick in counted_ticks(legs, since, until)}


def lead_weights(machine, legs, one, other, since, until):
    """The weights of the touches of other less those of one; raises NoPage, BadRange."""
    check_page(machine, one)
    check_page(machine, other)
    ticks = counted_ticks(legs, since, until)
    if one == other:
        return {}
    return {(tick, page): weight for tick in ticks for page, weight in ((one, -1), (other, 1))}


def negative(weights):
    """The weights with which the greatest is what is least with these."""
    return {key: -weight for key, weight in weights.items()}


def negative_heights(heights):
    """Heights as they are with the negative of the weights."""
    return tuple([(number, state, -height) for number, state, height in heights])


def greatest_cost(machine, legs, weights):
    """The greatest cost of runs that fit, None without one."""
    ends = greatest_so_far(weighed_turns(machine, legs, weights))[-1]
    return max(ends.values(), default=None)


def least_and_greatest(machine, legs, weights):
    """(least, greatest) of the costs of runs that fit, None without one."""
    greatest = greatest_cost(machine, legs, weights)
    if greatest is None:
        return None
    return (-greatest_cost(machine, legs, negative(weights)), greatest)


def heights_of(layers):
    """The heights that tell the greatest cost with which each state behind each turn is reached."""
    return tuple([(number, state, layer[state]) for number, layer in enumerate(layers) for state in sorted(layer)])


def peak(machine, legs, weights):
    """(value, run, heights): the greatest cost, the least run that has it, what shows it; None without a run."""
    turns = weighed_turns(machine, legs, weights)
    layers = greatest_so_far(turns)
    greatest = max(layers[-1].values(), default=None)
    if greatest is None:
        return None
    return (greatest, least_run(turns, greatest), heights_of(layers))


def is_height(machine, legs, value):
    """Whether a value has the form (turn, state, height)."""
    if not isinstance(value, tuple) or len(value) != 3:
        return False
    number, state, height = value
    return is_integer_in(number, 0, len(legs) - 1) and is_state(machine, state) and is_integer(height)


def are_heights(machine, legs, value):
    """Whether a value is an ascending tuple of (turn, state, height), no turn and state twice."""
    if not isinstance(value, tuple) or not all([is_height(machine, legs, row) for row in value]):
        return False
    return is_ascending([row[:2] for row in value])


def leads_on(table, number, height, ways):
    """Whether each of these ways through a turn leads to a height that is not below this one and its cost."""
    for names, after, cost in ways:
        if (number, after) not in table or table[(number, after)] < height + cost:
            return False
    return True


def are_above(machine, legs, weights, value, heights):
    """Whether these heights, by their form such, show that no run that fits costs more than value."""
    table = {(number, state): height for number, state, height in heights}
    if not leads_on(table, 0, 0, weighed_ways(machine, legs[0], BEGINNING, weights)):
        return False
    for number, state, height in heights:
        if number == len(legs) - 1:
            if height > value:
                return False
        elif not leads_on(table, number + 1, height, weighed_ways(machine, legs[number + 1], state, weights)):
            return False
    return True


def touches(machine, watch, journal, page, *, since=0, until=None):
    """(least, greatest): how often runs that fit touch the page, None without one."""
    legs = legs_of(machine, watch, journal)
    return least_and_greatest(machine, legs, page_weights(machine, legs, page, since, until))


def fewest(machine, watch, journal, page, *, since=0, until=None):
    """(value, run, heights): the least number of touches, the least run that has it, what shows it; or None."""
    legs = legs_of(machine, watch, journal)
    found = peak(machine, legs, negative(page_weights(machine, legs, page, since, until)))
    if found is None:
        return None
    value, run, heights = found
    return (-value, run, negative_heights(heights))


def most(machine, watch, journal, page, *, since=0, until=None):
    """(value, run, heights): the greatest number of touches, the least run that has it, what shows it; or None."""
    legs = legs_of(machine, watch, journal)
    return peak(machine, legs, page_weights(machine, legs, page, since, until))


def shows_fewest(machine, watch, journal, page, value, heights, *, since=0, until=None):
    """Whether these are heights that show that no run that fits touches the page less often than value."""
    legs = legs_of(machine, watch, journal)
    weights = negative(page_weights(machine, legs, page, since, until))
    if not is_integer(value) or not are_heights(machine, legs, heights):
        return False
    return are_above(machine, legs, weights, -value, negative_heights(heights))


def shows_most(machine, watch, journal, page, value, heights, *, since=0, until=None):
    """Whether these are heights that show that no run that fits touches the page more often than value."""
    legs = legs_of(machine, watch, journal)
    weights = page_weights(machine, legs, page, since, until)
    if not is_integer(value) or not are_heights(machine, legs, heights):
        return False
    return are_above(machine, legs, weights, value, heights)


def warmer(machine, watch, journal, one, other, *, since=0, until=None):
    """("surely", heights) if no run that fits touches other more often than one, else ("not", run)."""
    legs = legs_of(machine, watch, journal)
    turns = weighed_turns(machine, legs, lead_weights(machine, legs, one, other, since, until))
    run = least_run(turns, 1)
    if run is None:
        return ("surely", heights_of(greatest_so_far(turns)))
    return ("not", run)


def shows_warmer(machine, watch, journal, one, other, value, *, since=0, until=None):
    """Whether a value shows, as that of warmer does, that one is surely as warm as other, or that it is not."""
    legs = legs_of(machine, watch, journal)
    weights = lead_weights(machine, legs, one, other, since, until)
    if not isinstance(value, tuple) or len(value) != 2:
        return False
    word, shown = value
    if word == "surely":
        return are_heights(machine, legs, shown) and are_above(machine, legs, weights, 0, shown)
    if word != "not" or not machine.is_run(shown) or not fits(machine, watch, journal, shown):
        return False
    return cost_of(machine, 0, shown, weights) > 0


def age(machine, watch, journal, page):
    """(least, greatest): how many ticks ago runs that fit touched the page last, None without one."""
    legs = legs_of(machine, watch, journal)
    check_page(machine, page)
    total = ticks_of(legs)
    # Each touch weighs more than all earlier ones together, so the length of the sum in bits tells the last one.
    found = least_and_greatest(machine, legs, {(tick, page): 1 << tick for tick in range(total)})
    if found is None:
        return None
    early, late = found
    return (total - late.bit_length(), total - early.bit_length())


def with_counts(machine, counts, ticks, start, names):
    """Counts of touches, one for each page, with those of these steps at ticks that count."""
    touched = [machine.page(name) for tick, name in enumerate(names, start=start) if tick in ticks]
    return tuple([count + touched.count(page) for count, page in zip(counts, machine.pages)])


def least_runs_by_counts(machine, legs, ticks):
    """A dict with the least run that fits for each (state, counts) in which one ends, ascending by the runs."""
    found = {(BEGINNING, tuple([0 for page in machine.pages])): ()}
    for leg, ways in zip(legs, weighed_turns(machine, legs, {})):
        behind = {}
        # Runs and ways ascend, and so the first run with these counts is the least one.
        for (state, counts), run in found.items():
            for names, after, cost in ways[state]:
                key = (after, with_counts(machine, counts, ticks, leg[0], names))
                if key not in behind:
                    behind[key] = (*run, *names)
        found = behind
    return found


def warmest(machine, watch, journal, *, since=0, until=None):
    """The ascending tuple of (page, run) of the pages that may be the warmest, with the least run in which they are."""
    legs = legs_of(machine, watch, journal)
    ticks = counted_ticks(legs, since, until)
    ends = [(run, counts) for (state, counts), run in least_runs_by_counts(machine, legs, ticks).items()]
    found = []
    for at, page in enumerate(machine.pages):
        warm = [run for run, counts in ends if counts[at] == max(counts)]
        if warm:
            found.append((page, min(warm)))
    return tuple(found)


def slow(machine, watch, journal, sets):
    """(least, greatest) of the slow touches of runs that fit, with these sets in their turns; None without one."""
    legs = legs_of(machine, watch, journal)
    if not isinstance(sets, tuple) or len(sets) != len(legs) or not all([chosen in machine.sets for chosen in sets]):
        raise BadSets(sets)
    weights = {}
    for (start, ticks, watched, marks), chosen in zip(legs, sets):
        for tick in range(start, start + ticks):
            for page in machine.pages:
                if page not in chosen:
                    weights[(tick, page)] = 1
    return least_and_greatest(machine, legs, weights)
