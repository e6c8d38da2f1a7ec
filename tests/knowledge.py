"""What section 11 says, written out once more: knowledges, posts and books clause by clause, and the game itself."""

import random

from oracle import WATCHED, is_page_tuple, marks_that_may_be, ways_on
from rulebook import small_machine, small_watch
from samples import EXAMPLE, moved, slow_in
from seldomseen.machines import Machine
from stretches import is_int, is_set_of, is_step_of, none_first, parts_in


def floor_of(machine, a):
    return -(a * (2 + machine.move * len(machine.first)))


def first_row(machine):
    return ((None, (), machine.first), 0)


def is_knowledge_form(machine, a, value):
    if type(value) is not tuple:
        return False
    for row in value:
        if type(row) is not tuple or len(row) != 2 or type(row[0]) is not tuple or len(row[0]) != 3:
            return False
        (step, pages, other), excess = row
        if step is None:
            if row[0] != (None, (), machine.first):
                return False
        elif not is_step_of(machine, step) or not is_page_tuple(machine, pages) or not is_set_of(machine, other):
            return False
        if not is_int(excess) or excess < floor_of(machine, a):
            return False
    stands = [none_first(stand) for stand, _ in value]
    return all(stands[k] < stands[k + 1] for k in range(len(stands) - 1))


def next_place(machine, place):
    return (place + 1) % len(machine.clock)


def comes_of_row(machine, watch, a, b, place, own, row, following):
    """(marks, (step, pages, set), excess), not raised, of all that comes of a row if the rule's next set is this one."""
    (step, pages, other), excess = row
    for names, marks, (last, left) in ways_on(machine, watch, place, (step, pages)):
        end = excess + b * slow_in(machine, names, own) - a * slow_in(machine, names, other)
        for chosen in machine.sets:
            yield (marks, (last, left, chosen),
                   end + b * moved(machine, own, following) - a * moved(machine, other, chosen))


def ticks_of_row(machine, a, b, place, own, row):
    """(names, excess) at each tick of the turn behind a row."""
    (step, _, other), excess = row
    for names in parts_in(machine, place, step):
        yield names, excess + b * slow_in(machine, names, own) - a * slow_in(machine, names, other)


def are_post_forms(machine, watch, a, value):
    if type(value) is not tuple or not value:
        return False
    for post in value:
        if type(post) is not tuple or len(post) != 4:
            return False
        place, own, known, answers = post
        if not is_int(place) or not 0 <= place < len(machine.clock) or not is_set_of(machine, own):
            return False
        if not is_knowledge_form(machine, a, known) or type(answers) is not tuple:
            return False
        if len(answers) != len(marks_that_may_be(watch, place)):
            return False
        if not all(is_int(number) and 0 <= number < len(value) for number in answers):
            return False
    return all(value[number][0] == next_place(machine, place) for place, _, _, answers in value for number in answers)


def posts_hold(machine, watch, a, b, d, value):
    if not are_post_forms(machine, watch, a, value):
        return False
    place, own, known, _ = value[0]
    stand, nothing = first_row(machine)
    if place != 0 or own != machine.first or dict(known).get(stand, nothing - 1) < nothing:
        return False
    for place, own, known, answers in value:
        for row in known:
            if any(excess > d for _, excess in ticks_of_row(machine, a, b, place, own, row)):
                return False
            for number, marks in enumerate(marks_that_may_be(watch, place)):
                _, following, there, _ = value[answers[number]]
                have = dict(there)
                for shown, stand, excess in comes_of_row(machine, watch, a, b, place, own, row, following):
                    if shown == marks:
                        if stand not in have or have[stand] < max(excess, floor_of(machine, a)):
                            return False
                        if have.get(stand[:2] + (following,), -1) < 0:
                            return False
    return True


def leaf_holds(machine, watch, a, b, d, value, at):
    place, own, known, ways = value[at]
    if type(ways) is not tuple or len(ways) != 3 or type(ways[0]) is not str:
        return False
    if ways[0] == 'breaks':
        if not is_int(ways[1]) or not 0 <= ways[1] < len(known) or type(ways[2]) is not tuple:
            return False
        return any(names == ways[2] and excess > d
                   for names, excess in ticks_of_row(machine, a, b, place, own, known[ways[1]]))
    if ways[0] != 'whatever' or type(ways[2]) is not tuple or len(ways[2]) != len(machine.sets):
        return False
    if type(ways[1]) is not tuple or not all(type(mark) is bool for mark in ways[1]):
        return False
    if ways[1] not in marks_that_may_be(watch, place):
        return False
    for following, number in zip(machine.sets, ways[2]):
        if not is_int(number) or not 0 <= number < at:
            return False
        if value[number][0] != next_place(machine, place) or value[number][1] != following:
            return False
        comes = [(stand, excess) for row in known
                 for marks, stand, excess in comes_of_row(machine, watch, a, b, place, own, row, following)
                 if marks == ways[1]]
        for stand, excess in value[number][2]:
            if stand[:2] not in [other[:2] for other, _ in comes]:
                return False
            if not (excess == floor_of(machine, a) or (stand[2] == following and excess <= 0)
                    or any(other == stand and excess <= least for other, least in comes)):
                return False
    return True


def book_holds(machine, watch, a, b, d, value):
    if type(value) is not tuple or not value:
        return False
    for leaf in value:
        if type(leaf) is not tuple or len(leaf) != 4 or not is_int(leaf[0]) or not 0 <= leaf[0] < len(machine.clock):
            return False
        if not is_set_of(machine, leaf[1]) or not is_knowledge_form(machine, a, leaf[2]):
            return False
    if value[-1][:3] != (0, machine.first, (first_row(machine),)):
        return False
    return all(leaf_holds(machine, watch, a, b, d, value, at) for at in range(len(value)))


def comes_of_triple(machine, watch, a, b, triple):
    """{marks: {set: triple}} of what comes behind the turn."""
    place, own, known = triple
    found = {}
    for following in machine.sets:
        told = {}
        for row in known:
            for marks, stand, excess in comes_of_row(machine, watch, a, b, place, own, row, following):
                there = told.setdefault(marks, {})
                least = max(excess, floor_of(machine, a), 0 if stand[2] == following else excess)
                there[stand] = max(there.get(stand, least), least)
        for marks, there in told.items():
            found.setdefault(marks, {})[following] = (next_place(machine, place), following, tuple(sorted(there.items())))
    return found


def exceeds(machine, a, b, triple, d):
    place, own, known = triple
    return any(excess > d for row in known for _, excess in ticks_of_row(machine, a, b, place, own, row))


def all_triples(machine, watch, a, b, most, limit=300):
    """{triple: what comes of it} of those that are counted; None if they are more than the limit."""
    found, waiting = {}, [(0, machine.first, (first_row(machine),))]
    while waiting:
        triple = waiting.pop(0)
        if triple in found or exceeds(machine, a, b, triple, most):
            continue
        if len(found) == limit:
            return None
        found[triple] = comes_of_triple(machine, watch, a, b, triple)
        waiting += [after for told in found[triple].values() for after in told.values()]
    return found


def least_held(machine, watch, a, b, most):
    """The least bound that can be held, None if each one up to most is broken, 'many' if there are too many triples."""
    triples = all_triples(machine, watch, a, b, most)
    if triples is None:
        return 'many'
    for d in range(most + 1):
        good = {triple for triple in triples if not exceeds(machine, a, b, triple, d)}
        while True:
            kept = {triple for triple in good if all(
                any(after in good for after in told.values()) for told in triples[triple].values())}
            if kept == good:
                break
            good = kept
        if (0, machine.first, (first_row(machine),)) in good:
            return d
    return None


def small_games(many, seed):
    """(machine, watch, a, b) of the sizes that section 11 names."""
    chance = random.Random(seed)
    for machine, watches in WATCHED:
        if len(machine.steps) <= 4 and len(machine.pages) <= 3 and max(machine.clock) <= 2 >= len(machine.clock):
            if machine.move <= 2:
                for watch in watches:
                    yield machine, watch, chance.randrange(1, 4), chance.randrange(1, 4)
    for _ in range(many):
        machine = small_machine(chance, most_pages=3, most_turns=2, most_ticks=2, most_move=2)
        yield machine, small_watch(chance, machine), chance.randrange(1, 4), chance.randrange(1, 4)


# Goes to and fro at will; who sees nothing holds no bound.
EITHER = Machine((('a', 'p', ('a', 'b')), ('b', 'q', ('a', 'b'))), (1,), ('p', 'q'), 1, ('p',))
assert EITHER != EXAMPLE

# (machine, a, b, least bound that is held by who sees all, by who sees nothing; None for more than 3)
WATCHFUL = tuple((Machine(*parts), a, b, least, blind) for parts, a, b, least, blind in (
    (((('g', 'p', ('e', 'g', 'h')), ('h', 'r', ('g', 'h')), ('e', 'r', ('e', 'h'))), (1, 1), ('p', 'q', 'r'), 1, ('p', 'q')),
     2, 1, 0, 1),
    (((('e', 'q', ('c', 'e', 'g')), ('b', 'r', ('e',)), ('c', 'q', ('b', 'e', 'g')), ('g', 'r', ('g',))), (1, 1),
      ('p', 'q', 'r'), 1, ('r',)), 2, 1, 2, None),
    (((('f', 'q', ('b', 'f')), ('b', 'r', ('b',))), (1,), ('p', 'q', 'r'), 2, ('q',)), 3, 1, 0, None),
    (((('d', None, ('e', 'f')), ('f', None, ('b', 'd', 'e')), ('e', 'p', ('d', 'e', 'f')), ('b', None, ('d',))), (1, 1),
      ('p', 'q'), 1, ('q',)), 3, 2, 1, 2),
    (((('b', None, ('d', 'h')), ('d', None, ('b',)), ('h', 'p', ('b', 'd'))), (2, 1), ('p', 'q', 'r'), 1, ('q', 'r')),
     3, 2, 1, 2),
    (((('a', None, ('a', 'c')), ('c', 'p', ('c',))), (1,), ('p', 'q'), 1, ('q',)), 3, 1, 0, 1),
    (((('f', 'q', ('c', 'f', 'h')), ('c', None, ('h',)), ('h', 'p', ('c', 'h')), ('b', 'q', ('b', 'f'))), (1,), ('p', 'q'), 0,
      ('p',)), 3, 3, 3, None),
    (((('c', 'p', ('d', 'g', 'h')), ('h', 'q', ('c', 'd', 'g')), ('g', 'p', ('c', 'd')), ('d', 'q', ('g', 'h'))), (1, 1),
      ('p', 'q'), 1, ('p',)), 3, 1, 2, None),
    (((('a', 'r', ('a', 'f', 'h')), ('h', 'r', ('c',)), ('f', 'p', ('h',)), ('c', 'p', ('c',))), (2,), ('p', 'q', 'r'), 0,
      ('q',)), 1, 1, 2, None),
    (((('e', 'q', ('b', 'd', 'e')), ('d', 'p', ('b', 'd', 'e')), ('b', 'q', ('d',))), (1,), ('p', 'q'), 1, ('p',)),
     3, 1, 2, None)))

# (machine, a, b, d): who sees nothing holds d, and who sees all has too many triples; and where the first breaks it.
MANY_BEHIND = (Machine(
    (('g', 'q', ('a', 'c', 'h')), ('a', 'r', ('a', 'c', 'g')), ('c', 'q', ('a', 'c')), ('h', None, ('c', 'g'))), (2, 1),
    ('p', 'q', 'r'), 2, ('p', 'r')), 3, 2, 3)
MANY_AHEAD = (Machine(
    (('b', 'p', ('b', 'f', 'h')), ('h', None, ('b',)), ('f', 'q', ('b', 'f'))), (2, 1), ('p', 'q'), 2, ('p',)), 2, 1, 4)
