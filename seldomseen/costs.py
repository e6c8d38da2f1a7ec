"""What runs that fit a journal cost, if touches have weights, and the least one that costs so much.

Weights are a dict with a weight for each (tick, page) whose touch counts. The costs may be anything that is counted:
touches, slow touches, touches of one page less those of another one. What is least is the greatest of the negative.
"""

from seldomseen.journals import ways_with
from seldomseen.ways import BEGINNING


def cost_of(machine, start, names, weights):
    """What the touches of these steps weigh, the first one of them taken at the tick start."""
    return sum([weights.get((tick, machine.page(name)), 0) for tick, name in enumerate(names, start=start)])


def weighed_ways(machine, leg, state, weights):
    """(names, state, cost) of the ways through a leg that have its marks, ascending by the names."""
    return [(names, after, cost_of(machine, leg[0], names, weights)) for names, after in ways_with(machine, leg, state)]


def weighed_turns(machine, legs, weights):
    """For each leg a dict with the weighed ways from each state to which runs with the marks so far come."""
    turns = []
    states = [BEGINNING]
    for leg in legs:
        ways = {state: weighed_ways(machine, leg, state, weights) for state in states}
        turns.append(ways)
        states = sorted(set([after for rows in ways.values() for names, after, cost in rows]))
    return turns


def greatest_so_far(turns):
    """Behind each turn a dict with the greatest cost of the ways from the beginning to each state."""
    found = []
    ahead = {BEGINNING: 0}
    for ways in turns:
        behind = {}
        for state, paid in ahead.items():
            for names, after, cost in ways[state]:
                behind[after] = max(behind.get(after, paid + cost), paid + cost)
        found.append(behind)
        ahead = behind
    return found


def greatest_to_come(turns):
    """Behind each turn a dict with the greatest cost from each state on, of those from which a run goes on to the end.

    One more, ahead of the others, has the cost from the beginning on, if a run fits.
    """
    behind = {after: 0 for rows in turns[-1].values() for names, after, cost in rows}
    found = [behind]
    for ways in reversed(turns):
        ahead = {}
        for state, rows in ways.items():
            costs = [cost + behind[after] for names, after, cost in rows if after in behind]
            if costs:
                ahead[state] = max(costs)
        found.append(ahead)
        behind = ahead
    return found[::-1]


def least_run(turns, goal):
    """The least run through all turns that costs goal or more, None without one."""
    first, *later = greatest_to_come(turns)
    if BEGINNING not in first or first[BEGINNING] < goal:
        return None
    run = ()
    state = BEGINNING
    left = goal
    for ways, rest in zip(turns, later):
        # Ways ascend, and so the first one from which the goal is still reached is the least one.
        good = [way for way in ways[state] if way[1] in rest and way[2] + rest[way[1]] >= left]
        names, state, cost = good[0]
        run = (*run, *names)
        left = left - cost
    return run
