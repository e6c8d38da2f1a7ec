import copy
import random
import unittest
from itertools import product

from changes import some_changed
from oracle import WATCHED, states_of, total_ticks
from rulebook import FOLLOWING, STILL, chasing, doubled, made_up, small_machine, small_watch, some_rules
from samples import ANY_VALUES, EXAMPLE, STEPS, turns_by_tick
from seldomseen.errors import BadWeight, OtherMachine
from seldomseen.machines import Machine
from seldomseen.rules import Rule
from seldomseen.versus import shows_versus, versus
from stretches import lead_in, versus_holds, versus_table_holds
from test_sizes import PAGES, big_machine

WEIGHTS = ((1, 1), (2, 1), (1, 2), (9, 1), (1, 9), (3, 2))


def some_pairs():
    """Rules of one machine: of one watch, of two watches, alike ones."""
    chance = random.Random(3)
    for machine, watches in WATCHED:
        for watch, beside in product(watches[:2], repeat=2):
            one, other = some_rules(machine, watch, 2, 1)[0], some_rules(machine, beside, 2, 2)[1]
            yield one, other
            if watch == beside:
                yield one, one
                yield one, doubled(one, chance)
    for _ in range(60):
        machine = small_machine(chance)
        one, other = [made_up(machine, small_watch(chance, machine), chance, len(machine.clock) + 1) for _ in range(2)]
        yield one, other
        if len(machine.sets) * len(machine.clock) <= 6:
            yield one, chasing(machine)
            yield chasing(machine), other
    yield FOLLOWING, STILL


PAIRED = list(some_pairs())


def greatest_lead(one, other, a, b, most_ticks=6, many=40):
    found = []
    for length in range(1, most_ticks + 1):
        runs = list(one.machine.runs(length))
        found += [lead_in(one, other, a, b, run) for run in runs[::max(1, len(runs) // many)]]
    return max(found)


class VersusTest(unittest.TestCase):

    def test_told_as_it_is(self):
        counted = {}
        for number, (one, other) in enumerate(PAIRED):
            for a, b in WEIGHTS[number % 2::2]:
                for first, second in ((one, other), (other, one)):
                    found = versus(first, second, a, b)
                    self.assertEqual((type(found), len(found)), (tuple, 4))
                    self.assertTrue(versus_holds(first, second, a, b, found), found)
                    self.assertIs(shows_versus(first, second, a, b, found), True)
                    self.assertEqual(versus(one=first, other=second, a=a, b=b), found)
                    kind = found[0] if found[0] == 'grows' else (found[1] > 0) - (found[1] < 0)
                    counted[kind] = counted.get(kind, 0) + 1
        self.assertEqual(set(counted), {'grows', -1, 0, 1})
        self.assertGreater(min(counted.values()), 10, counted)

    def test_no_short_run_exceeds_it(self):
        reached = 0
        for number, (one, other) in enumerate(PAIRED):
            a, b = WEIGHTS[number % len(WEIGHTS)]
            found = versus(one, other, a, b)
            if found[0] == 'most':
                short = greatest_lead(one, other, a, b)
                self.assertLessEqual(short, found[1])
                self.assertEqual(lead_in(one, other, a, b, found[2]), found[1])
                reached += short == found[1]
        self.assertGreater(reached, 20)

    def test_it_grows_along_a_told_ring(self):
        seen = 0
        for one, other in PAIRED[::2]:
            found = versus(one, other, 1, 1)
            if found[0] == 'grows':
                seen += 1
                _, run, first, last = found
                parts = turns_by_tick(one.machine, run)
                at, end = sum(map(len, parts[:first])), sum(map(len, parts[:last]))
                leads = [lead_in(one, other, 1, 1, run[:at] + run[at:end] * times + ('',) * 0) for times in (1, 2, 3, 4)]
                self.assertTrue(leads[0] < leads[1] < leads[2] < leads[3], leads)
                self.assertEqual(leads[2] - leads[1], leads[3] - leads[2])
        self.assertGreater(seen, 10)

    def test_a_rule_beside_itself(self):
        for one, _ in PAIRED[::3]:
            self.assertEqual(versus(one, one, 1, 1)[:2], ('most', 0))
            found = versus(one, one, 2, 1)
            self.assertEqual(found[0], 'most')
            self.assertLessEqual(found[1], 0)

    def test_by_hand(self):
        # FOLLOWING pays a move to q and slow touches there for what STILL has for nothing.
        self.assertEqual(versus(FOLLOWING, STILL, 1, 1)[0], 'grows')
        self.assertEqual(versus(STILL, FOLLOWING, 1, 1)[:2], ('most', 0))
        machine = Machine((('a', 'q', ('b',)), ('b', 'q', ('c',)), ('c', 'q', ())), (1,), ('p', 'q'), 1, ('p',))
        still = Rule(machine, ((),), ((0, ('p',), (0,)),))
        goes = Rule(machine, ((),), ((0, ('p',), (1,)), (0, ('q',), (1,))))
        # One pays 1, 2, 3 in the runs, the other one 1, 2, 2.
        self.assertEqual(versus(still, goes, 1, 1)[:3], ('most', 1, ('a', 'b', 'c')))
        self.assertEqual(versus(goes, still, 1, 1)[:2], ('most', 0))
        self.assertEqual(versus(goes, still, 9, 1)[:3], ('most', -8, ('a',)))
        self.assertEqual(versus(still, goes, 1, 9)[:3], ('most', 25, ('a', 'b', 'c')))
        self.assertIn(((0, 1, 'c', ('q',), ('q',)), 1), versus(still, goes, 1, 1)[3])

    def test_rules_of_two_watches(self):
        one = Rule(EXAMPLE, (('p',),), ((0, ('p',), (0, 1)), (0, ('q',), (1, 0))))
        other = Rule(EXAMPLE, (('q',),), ((0, ('p',), (0, 1)), (0, ('q',), (0, 1))))
        for a, b in WEIGHTS:
            for first, second in ((one, other), (other, one)):
                found = versus(first, second, a, b)
                self.assertTrue(versus_holds(first, second, a, b, found))
        found = versus(one, other, 9, 1)
        pairs = [row[0] for row in (found[3] if found[0] == 'most' else versus(other, one, 9, 1)[3])]
        self.assertTrue(any(pair[3] != pair[4] for pair in pairs))

    def test_same_sets_same_answers(self):
        chance = random.Random(2)
        for one, other in PAIRED[::5]:
            like = doubled(one, chance)
            for a, b in WEIGHTS[:3]:
                told, same = versus(one, other, a, b), versus(like, other, a, b)
                self.assertEqual(told[0], same[0])
                if told[0] == 'most':
                    self.assertEqual(told[1], same[1])

    def test_big_machines(self):
        for seed, clock in ((1, (3,)), (2, (3, 3, 3))):
            machine = big_machine(seed, clock)
            chance = random.Random(seed)
            one = made_up(machine, ((),) * len(clock), chance, 12)
            other = made_up(machine, (PAGES,) * len(clock), chance, 12)
            for a, b in ((1, 9), (9, 1)):
                for first, second in ((one, other), (other, one)):
                    found = versus(first, second, a, b)
                    self.assertTrue(versus_holds(first, second, a, b, found))
                    self.assertIs(shows_versus(first, second, a, b, found), True)


class RaisedTest(unittest.TestCase):

    def test_other_machine_goes_ahead(self):
        dearer = Machine(STEPS, (2,), ('p', 'q'), 2, ('p',))
        other = Rule(dearer, ((),), ((0, ('p',), (0,)),))
        for a, b in ((1, 1), (0, 1), (1, None), ('x', 10)):
            for call, rest in ((versus, ()), (shows_versus, (None,))):
                for first, second in ((STILL, other), (other, STILL)):
                    with self.assertRaises(OtherMachine) as caught:
                        call(first, second, a, b, *rest)
                    self.assertIs(caught.exception.value, second.machine)

    def test_bad_weight(self):
        for value in ANY_VALUES + (0, 10, -1, True, '1', [1], (1,)):
            if type(value) is int and 1 <= value <= 9:
                continue
            for call, rest in ((versus, ()), (shows_versus, (versus(STILL, FOLLOWING, 1, 1),)), (shows_versus, (None,))):
                for a, b in ((value, 1), (1, value), (value, 0), (value, [])):
                    before = copy.deepcopy(value)
                    with self.assertRaises(BadWeight) as caught:
                        call(STILL, FOLLOWING, a, b, *rest)
                    self.assertIs(caught.exception.value, value)
                    self.assertEqual(value, before)

    def test_an_equal_machine_is_no_other_one(self):
        same = Rule(Machine(STEPS, (2,), ('p', 'q'), 1, ('p',)), ((),), ((0, ('p',), (0,)),))
        self.assertEqual(versus(STILL, same, 1, 1)[:2], ('most', 0))


def names_of(one):
    return one.machine.names + one.machine.pages + ('most', 'grows', '')


class ShowsVersusTest(unittest.TestCase):

    def test_with_one_or_two_parts_otherwise(self):
        chance = random.Random(14)
        counted = {('most', True): 0, ('most', False): 0, ('grows', True): 0, ('grows', False): 0}
        for number, (one, other) in enumerate(PAIRED):
            for a, b in (WEIGHTS[number % 6], (9, 2)):
                found = versus(one, other, a, b)
                for value in some_changed(chance, found, names_of(one), 15):
                    wanted = versus_holds(one, other, a, b, value)
                    counted[found[0], wanted] += 1
                    before = copy.deepcopy(value)
                    self.assertIs(shows_versus(one, other, a, b, value), wanted, (one.states, other.states, value))
                    self.assertIs(shows_versus(one=one, other=other, a=a, b=b, value=value), wanted)
                    self.assertEqual(value, before)
        self.assertGreater(min(counted.values()), 50, counted)

    def test_each_row_otherwise(self):
        seen = 0
        for one, other in PAIRED[::3]:
            found = versus(one, other, 9, 2)
            if found[0] == 'grows':
                continue
            rows = found[3]
            for at, (pair, height) in enumerate(rows):
                seen += 1
                for changed in (
                        rows[:at] + rows[at + 1:], rows[:at] + (rows[at],) + rows[at:],
                        rows[:at] + ((pair, height + 1),) + rows[at + 1:], rows[:at] + ((pair, height - 1),) + rows[at + 1:],
                        rows[:at] + ([pair, height],) + rows[at + 1:], rows[:at] + ((list(pair), height),) + rows[at + 1:],
                        rows[:at] + ((pair, bool(height)),) + rows[at + 1:], rows[at:] + rows[:at],
                        rows[:at] + (pair,) + rows[at + 1:], rows[:at] + ((pair, height, 1),) + rows[at + 1:]):
                    value = found[:3] + (changed,)
                    self.assertIs(shows_versus(one, other, 9, 2, value), versus_holds(one, other, 9, 2, value))
                less = rows[:at] + ((pair, height - 1),) + rows[at + 1:]
                self.assertFalse(versus_table_holds(one, other, 9, 2, found[1], less))
        self.assertGreater(seen, 100)

    def test_further_rows(self):
        counted = {True: 0, False: 0}
        for one, other in PAIRED[::3]:
            found = versus(one, other, 9, 2)
            if found[0] == 'grows':
                continue
            have = dict(found[3])
            states = states_of(one.machine)[::3]
            pairs = [(number, beside, step, pages, others) for number in range(len(one.states))
                     for beside in range(len(other.states)) for step, pages in states for _, others in states[:4]
                     if one.states[number][0] == other.states[beside][0]]
            for pair, height in [(pair, height) for pair in pairs[::7] for height in (-20, 5)]:
                table = {pair: height, **have}
                rows = tuple(sorted(table.items(), key=lambda row: row[0][:2] + (row[0][2] or '',) + row[0][3:]))
                value = found[:3] + (rows,)
                wanted = versus_holds(one, other, 9, 2, value)
                counted[wanted] += 1
                self.assertIs(shows_versus(one, other, 9, 2, value), wanted)
        self.assertGreater(min(counted.values()), 20)

    def test_all_rings_and_runs_that_are_short(self):
        counted = {}
        for one, other in [(STILL, FOLLOWING), (FOLLOWING, STILL)] + PAIRED[::9]:
            for a, b in ((1, 2), (3, 2)):
                found = versus(one, other, a, b)
                for turns in (1, 2, 3):
                    if total_ticks(one.machine, turns) > 6:
                        continue
                    runs = list(one.machine.runs(total_ticks(one.machine, turns)))
                    for run in runs[::max(1, len(runs) // 12)]:
                        values = [('grows', run, first, last) for first in range(-1, turns + 1)
                                  for last in range(first, turns + 2)]
                        if found[0] == 'most':
                            values += [('most', found[1], run[:end], found[3]) for end in range(len(run) + 1)]
                        for value in values:
                            wanted = versus_holds(one, other, a, b, value)
                            counted[value[0], wanted] = counted.get((value[0], wanted), 0) + 1
                            self.assertIs(shows_versus(one, other, a, b, value), wanted, value)
        self.assertGreater(min(counted.values()), 20, counted)
        self.assertEqual(len(counted), 4)

    def test_other_way_about(self):
        for one, other in PAIRED[::2]:
            for a, b in ((1, 1), (1, 3)):
                found = versus(one, other, a, b)
                for first, second, c, d in ((other, one, a, b), (one, other, b, a), (one, one, a, b)):
                    self.assertIs(shows_versus(first, second, c, d, found), versus_holds(first, second, c, d, found))

    def test_any_value(self):
        most, grows = versus(STILL, FOLLOWING, 1, 1), versus(FOLLOWING, STILL, 1, 1)
        self.assertEqual((most[0], grows[0]), ('most', 'grows'))
        for value in ANY_VALUES:
            pair, height = most[3][1]
            values = [value, most[:3] + (most[3] + (value,),), most[:3] + (most[3][:1] + ((value, height),) + most[3][2:],),
                      most[:3] + (most[3][:1] + ((pair, value),) + most[3][2:],)]
            values += [found[:at] + (value,) + found[at + 1:] for found in (most, grows) for at in range(4)]
            values += [most[:3] + (most[3][:1] + ((pair[:at] + (value,) + pair[at + 1:], height),) + most[3][2:],)
                       for at in range(5)]
            for told in values:
                before = copy.deepcopy(told)
                for one, other in ((STILL, FOLLOWING), (FOLLOWING, STILL)):
                    wanted = versus_holds(one, other, 1, 1, told)
                    self.assertIs(shows_versus(one, other, 1, 1, told), wanted, told)
                self.assertEqual(told, before)

    def test_forms(self):
        most, grows = versus(STILL, FOLLOWING, 1, 1), versus(FOLLOWING, STILL, 1, 1)
        for found, one, other in ((most, STILL, FOLLOWING), (grows, FOLLOWING, STILL)):
            self.assertIs(shows_versus(one, other, 1, 1, found), True)
            for value in (found[:3], found + (0,), list(found), found[1:], ('Most',) + found[1:], (None,) + found[1:],
                          ('most' if found is grows else 'grows',) + found[1:], (['most'],) + found[1:], found[0], {},
                          found[:1] + (bool(found[1]),) + found[2:], found[:3] + (list(found[3:]),),
                          found[:2] + (list(found[2:3]),) + found[3:], (found,), found[::-1]):
                self.assertIs(shows_versus(one, other, 1, 1, value), False, value)


if __name__ == '__main__':
    unittest.main()
