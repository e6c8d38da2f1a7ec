import copy
import random
import unittest
from itertools import product

from oracle import WATCHED, is_pair_form, next_of, next_sets, states_of, table_holds, total_ticks
from rulebook import FOLLOWING, STILL, doubled, made_up, some_rules
from samples import ANY_VALUES, CHEAP, EXAMPLE, FREE, STEPS
from seldomseen.errors import OtherMachine
from seldomseen.machines import Machine
from seldomseen.rules import Rule, alike, shows_alike

BEGINNING = (0, 0, None, (), ())


def parting_runs(one, other, turns):
    """The runs of so many whole turns behind which the rules' sets differ, ascending, with something to follow."""
    machine = one.machine
    return [run for run in machine.runs(total_ticks(machine, turns))
            if next_of(machine, run[-1]) and next_sets(one, run) != next_sets(other, run)]


def pairs_of_rules():
    """Rules of one machine: of the same watch, of two watches, and rules that have the same sets."""
    chance = random.Random(9)
    for machine, watches in WATCHED:
        for watch, beside in product(watches[:3], repeat=2):
            one, other = some_rules(machine, watch, 2, 1)[0], some_rules(machine, beside, 2, 2)[1]
            yield one, other
            if watch == beside:
                yield one, doubled(one, chance)
                yield doubled(other, chance), doubled(other, chance, 4)


class AlikeTest(unittest.TestCase):

    def test_told_as_it_is(self):
        counted = {'alike': 0, 'parts': 0}
        for one, other in pairs_of_rules():
            found = alike(one, other)
            counted[found[0]] += 1
            self.assertEqual(found, alike(one=one, other=other))
            self.assertEqual((type(found), len(found)), (tuple, 2))
            self.assertIs(shows_alike(one, other, found), True)
            self.assertIs(shows_alike(one=one, other=other, value=found), True)
            if found[0] == 'alike':
                self.assertTrue(table_holds(one, other, found[1]))
            turns = 1
            while total_ticks(one.machine, turns) <= 7:
                parting = parting_runs(one, other, turns)
                if parting:
                    self.assertEqual(found, ('parts', parting[0]))
                    break
                turns += 1
        self.assertGreater(min(counted.values()), 20)

    def test_a_rule_is_like_itself(self):
        for machine, watches in WATCHED:
            for watch in watches:
                for rule in some_rules(machine, watch, 2, 6):
                    self.assertEqual(alike(rule, rule)[0], 'alike')
                    self.assertTrue(table_holds(rule, rule, alike(rule, rule)[1]))

    def test_by_hand(self):
        self.assertEqual(alike(FOLLOWING, STILL), ('parts', ('a', 'b')))
        finer = Rule(EXAMPLE, (('p', 'q'),), ((0, ('p',), (0, 0, 1, 0)), (0, ('p',), (0, 0, 0, 1))))
        self.assertEqual(alike(finer, STILL)[0], 'alike')
        self.assertEqual(alike(STILL, STILL), ('alike', alike(STILL, STILL)[1]))
        self.assertEqual(
            sorted(alike(STILL, STILL)[1][1:]),
            [(0, 0, 'a', ('p',), ('p',)), (0, 0, 'a', ('p', 'q'), ('p', 'q')), (0, 0, 'b', ('p', 'q'), ('p', 'q'))])

    def test_states_that_differ_where_no_run_comes(self):
        # p is touched in each turn, so that the answers to its mark's False are never looked at.
        one = Rule(EXAMPLE, (('p',),), ((0, ('p',), (0, 0)), (0, ('q',), (0, 0))))
        other = Rule(EXAMPLE, (('p',),), ((0, ('p',), (1, 0)), (0, ('q',), (0, 0))))
        self.assertEqual(alike(one, other), ('alike', alike(one, other)[1]))
        self.assertTrue(table_holds(one, other, alike(one, other)[1]))

    def test_the_shortest_ahead_of_the_least(self):
        # Behind x, y, z the sets differ at once; of lesser runs, as x, x, x, x, y, z, only longer ones lead there.
        one = Rule(CHEAP, ((), ('c',)), ((0, ('a',), (1,)), (1, ('a',), (0, 2)), (0, ('b',), (1,))))
        other = Rule(CHEAP, ((), ('c',)), ((0, ('a',), (1,)), (1, ('a',), (0, 2)), (0, ('c',), (1,))))
        found = alike(one, other)
        self.assertEqual(found, ('parts', ('x', 'y', 'z')))
        shortest = next(turns for turns in range(1, 9) if parting_runs(one, other, turns))
        self.assertEqual(total_ticks(CHEAP, shortest), 3)

    def test_a_last_step_that_nothing_follows_parts_nothing(self):
        machine = Machine((('a', 'p', ('b',)), ('b', 'q', ())), (1,), ('p', 'q'), 1, ('p',))
        one = Rule(machine, ((),), ((0, ('p',), (1,)), (0, ('p',), (2,)), (0, ('p',), (2,))))
        other = Rule(machine, ((),), ((0, ('p',), (1,)), (0, ('p',), (2,)), (0, ('q',), (2,))))
        self.assertEqual(alike(one, other), ('alike', (BEGINNING, (1, 1, 'a', ('p',), ('p',)))))
        self.assertIs(shows_alike(one, other, ('parts', ('a', 'b'))), False)
        third = Rule(machine, ((),), ((0, ('p',), (1,)), (0, ('q',), (2,)), (0, ('p',), (2,))))
        self.assertEqual(alike(one, third), ('parts', ('a',)))

    def test_long_ways_to_where_they_part(self):
        # Rings of eleven and twelve states: they part where just one of them comes to its last state.
        def ring(many, at):
            return Rule(EXAMPLE, ((),), tuple(
                (0, ('q',) if k == at else ('p',), ((k + 1) % many,)) for k in range(many)))
        self.assertEqual(alike(ring(11, 10), ring(12, 10))[1], ('a',) * 42)
        self.assertEqual(alike(ring(11, 10), ring(12, 11))[1], ('a',) * 20)
        self.assertEqual(alike(ring(4, 3), ring(12, 3))[1], ('a',) * 14)
        self.assertEqual(alike(ring(11, 20), ring(12, 20))[0], 'alike')
        self.assertGreaterEqual(len(alike(ring(11, 20), ring(12, 20))[1]), 132)
        self.assertTrue(shows_alike(ring(11, 20), ring(12, 20), alike(ring(11, 20), ring(12, 20))))


class OtherMachineTest(unittest.TestCase):

    def test_the_second_machine(self):
        dearer = Machine(STEPS, (2,), ('p', 'q'), 2, ('p',))
        other = Rule(dearer, ((),), ((0, ('p',), (0,)),))
        for call in (lambda: alike(STILL, other), lambda: shows_alike(STILL, other, ('parts', ('a', 'b'))),
                     lambda: shows_alike(one=STILL, other=other, value=None)):
            with self.assertRaises(OtherMachine) as caught:
                call()
            self.assertIs(caught.exception.value, dearer)
        with self.assertRaises(OtherMachine) as caught:
            alike(other, STILL)
        self.assertIs(caught.exception.value, EXAMPLE)

    def test_an_equal_machine_is_no_other_one(self):
        same = Machine(STEPS, (2,), ('p', 'q'), 1, ('p',))
        self.assertEqual(alike(STILL, Rule(same, ((),), ((0, ('p',), (0,)),)))[0], 'alike')


def changed_at_random(chance, one, other, table):
    rows = [list(row) for row in table]
    at = chance.randrange(len(rows))
    way = chance.randrange(6)
    if way == 0:
        del rows[at]
    elif way == 1:
        rows.append(list(chance.choice(table)))
    elif way == 2:
        rows[at][chance.randrange(2)] = chance.randrange(-1, 4)
    else:
        step, pages = chance.choice(states_of(one.machine))
        rows.append([chance.randrange(len(one.states)), chance.randrange(len(other.states)), step, pages,
                     chance.choice(states_of(one.machine))[1]])
    chance.shuffle(rows)
    return tuple(tuple(row) for row in rows)


class ShowsAlikeTest(unittest.TestCase):

    def test_tables_in_another_order_and_with_rows_more_or_fewer(self):
        chance = random.Random(13)
        counted = {True: 0, False: 0}
        for one, other in pairs_of_rules():
            found = alike(one, other)
            if found[0] == 'parts':
                continue
            table = found[1]
            self.assertIs(shows_alike(one, other, ('alike', table[::-1])), True)
            for at in range(len(table)):
                self.assertIs(shows_alike(one, other, ('alike', table[:at] + table[at + 1:])), False)
                self.assertIs(shows_alike(one, other, ('alike', table + (table[at],))), False)
            for _ in range(10):
                changed = changed_at_random(chance, one, other, table)
                wanted = table_holds(one, other, changed)
                counted[wanted] += 1
                self.assertIs(shows_alike(one, other, ('alike', changed)), wanted, changed)
        self.assertGreater(min(counted.values()), 50)

    def test_rows_to_which_no_run_comes(self):
        good = alike(STILL, STILL)[1]
        # By their form alone, if what comes from them is there as well.
        self.assertIs(shows_alike(STILL, STILL, ('alike', good + ((0, 0, 'b', (), ()),))), True)
        more = ((0, 0, 'a', (), ()),)
        self.assertIs(shows_alike(STILL, STILL, ('alike', good + more)), True)
        self.assertTrue(table_holds(STILL, STILL, good + more))
        odd = ((0, 0, 'a', ('p',), ('q',)),)
        self.assertFalse(table_holds(STILL, STILL, good + odd))
        self.assertIs(shows_alike(STILL, STILL, ('alike', good + odd)), False)
        whole = tuple((0, 0, step, pages, others) for step, pages in states_of(EXAMPLE)
                      for others in ((), ('p',), ('p', 'q'), ('q',))) + (BEGINNING,)
        self.assertIs(shows_alike(STILL, STILL, ('alike', whole)), True)
        self.assertTrue(table_holds(STILL, STILL, whole))

    def test_sets_that_differ_in_a_row(self):
        one = Rule(EXAMPLE, ((),), ((0, ('p',), (0,)), (0, ('q',), (1,))))
        good = alike(one, one)[1]
        whole = tuple((1, 1) + row[2:] for row in good[1:])
        self.assertIs(shows_alike(one, one, ('alike', good + whole)), True)
        crossed = tuple((0, 1) + row[2:] for row in good[1:])
        self.assertIs(shows_alike(one, one, ('alike', good + crossed)), False)

    def test_rows_of_other_forms(self):
        good = alike(STILL, STILL)[1]
        for bad in (
                (0, 0, None, (), ('p',)), (0, 0, None, ('p',), ()), (0, 0, None, [], ()), (0, 0, 'a', ('p',)),
                (0, 0, 'a', ('p',), ('p',), ()), [0, 0, 'a', (), ()], (1, 0, 'a', (), ()), (0, 1, 'a', (), ()),
                (-1, 0, 'a', (), ()), (0, -1, 'a', (), ()), (False, 0, 'a', (), ()), (0, False, 'a', (), ()),
                (None, 0, 'a', (), ()), (0, None, 'a', (), ()), ('0', 0, 'a', (), ()), (0, [0], 'a', (), ()),
                (0, 0, 'c', (), ()), (0, 0, 'p', (), ()), (0, 0, '', (), ()), (0, 0, 0, (), ()), (0, 0, ['a'], (), ()),
                (0, 0, 'a', ('r',), ()), (0, 0, 'a', (), ('r',)), (0, 0, 'a', ('q', 'p'), ()), (0, 0, 'a', (), ('p', 'p')),
                (0, 0, 'a', [], ()), (0, 0, 'a', (), []), (0, 0, 'a', None, ()), (0, 0, 'a', (), 'p'), (0, 0, 'a', (), {}),
                (0, 0, 'a', (['p'],), ()), (0, 0, {}, (), ()), (), None, 0, 'a', {}, (0, 0), ((0, 0), 'a', (), (), ())):
            self.assertFalse(is_pair_form(STILL, STILL, bad))
            for rows in (good + (bad,), (bad,) + good, good[:1] + (bad,) + good[2:]):
                before = copy.deepcopy(rows)
                self.assertIs(shows_alike(STILL, STILL, ('alike', rows)), False, bad)
                self.assertEqual(rows, before)

    def test_the_beginning_of_bools_is_none(self):
        good = alike(STILL, STILL)[1]
        for first in ((False, False, None, (), ()), (0, False, None, (), ()), (False, 0, None, (), ())):
            self.assertIs(shows_alike(STILL, STILL, ('alike', (first,) + good[1:])), False)
        self.assertIs(shows_alike(STILL, STILL, ('alike', good[1:])), False)
        two = Rule(EXAMPLE, ((),), ((0, ('p',), (0,)), (0, ('p',), (0,))))
        self.assertIs(shows_alike(two, two, ('alike', good + ((1, 1, None, (), ()),))), False)
        self.assertIs(shows_alike(two, two, ('alike', good + ((1, 1, 'a', (), ()),))), True)

    def test_states_of_two_places(self):
        rule = Rule(FREE, ((), ()), ((0, ('b',), (1,)), (1, ('b',), (0,))))
        good = alike(rule, rule)[1]
        self.assertIs(shows_alike(rule, rule, ('alike', good)), True)
        for numbers in ((0, 1), (1, 0)):
            self.assertIs(shows_alike(rule, rule, ('alike', good + (numbers + ('x', (), ()),))), False)

    def test_runs_of_any_length(self):
        for one, other in pairs_of_rules():
            turns = 1
            while total_ticks(one.machine, turns) <= 6:
                parting = parting_runs(one, other, turns)
                for run in list(one.machine.runs(total_ticks(one.machine, turns)))[:40]:
                    self.assertIs(shows_alike(one, other, ('parts', run)), run in parting)
                turns += 1
        # FOLLOWING has q in each other turn.
        self.assertIs(shows_alike(FOLLOWING, STILL, ('parts', ('a', 'b') * 1001)), True)
        self.assertIs(shows_alike(FOLLOWING, STILL, ('parts', ('a', 'b') * 1000)), False)
        self.assertIs(shows_alike(STILL, FOLLOWING, ('parts', ('a', 'b') * 1001)), True)

    def test_runs_that_are_cut_short_or_none(self):
        for run in (('a',), ('a', 'b', 'a'), ('a', 'b', 'b'), ('b', 'a'), (), ['a', 'b'], 'ab', None, True, 2, {'a': 'b'},
                    ('a', ['b']), ('a', {}), (('a', 'b'),)):
            self.assertIs(shows_alike(FOLLOWING, STILL, ('parts', run)), False, run)
        self.assertIs(shows_alike(FOLLOWING, STILL, ('parts', ('a', 'b'))), True)

    def test_other_words_and_forms(self):
        run, table = ('a', 'b'), alike(STILL, STILL)[1]
        for value in (('Parts', run), ('alike', run), ['parts', run], ('parts',), ('parts', run, run), (run, 'parts'),
                      (None, run), (True, run), (['parts'], run), ({}, run), run, 'parts', {'parts': run}, ('', run)):
            self.assertIs(shows_alike(FOLLOWING, STILL, value), False, value)
        for value in (('parts', table), ['alike', table], ('alike',), ('alike', list(table)), ('alike', table, ()),
                      ('Alike', table), table, ('alike', {row: 1 for row in table}), ('alike', ()), (table, 'alike'),
                      ('alike', tuple(list(row) for row in table))):
            self.assertIs(shows_alike(STILL, STILL, value), False, value)

    def test_any_value(self):
        good = alike(STILL, STILL)[1]
        for value in ANY_VALUES:
            for told in (value, ('alike', value), ('parts', value), (value, ('a', 'b')), (value, good),
                         ('alike', good + (value,)), ('parts', ('a', value))):
                wanted = told == ('parts', ('a', 'b'))
                self.assertIs(shows_alike(STILL, STILL, told), False)
                self.assertIs(shows_alike(FOLLOWING, STILL, told), wanted)


class MadeUpTest(unittest.TestCase):

    def test_rules_of_twelve_states(self):
        chance = random.Random(21)
        for machine, watches in WATCHED[:5]:
            one = made_up(machine, watches[1], chance, 12)
            other = made_up(machine, watches[2], chance, 12)
            found = alike(one, other)
            self.assertIs(shows_alike(one, other, found), True)
            if found[0] == 'parts':
                self.assertNotEqual(next_sets(one, found[1]), next_sets(other, found[1]))
            half = made_up(machine, watches[1], chance, 8)
            whole = doubled(half, chance, 4)
            table = alike(half, whole)
            self.assertEqual(table[0], 'alike')
            self.assertTrue(table_holds(half, whole, table[1]))


if __name__ == '__main__':
    unittest.main()
