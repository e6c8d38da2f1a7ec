import copy
import random
import unittest

from oracle import WATCHED
from rulebook import FOLLOWING, STILL, chasing, doubled, made_up, small_rules, some_rules
from samples import ANY_VALUES, EXAMPLE, turns_by_tick
from seldomseen.bounds import bound, rate, shows_bound, shows_rate
from seldomseen.errors import BadWeight
from seldomseen.machines import Machine
from seldomseen.rules import Rule
from stretches import (
    bound_holds, bound_ring_holds, bound_table_holds, excess_by_turns, excess_of, greatest_of_short, pays_least)
from test_sizes import PAGES, big_machine

PAIRS = ((1, 1), (2, 1), (1, 2), (9, 1), (1, 9), (9, 8), (3, 5), (5, 1))

# Each turn touches all pages, that of the set last: no other sets are cheaper, and no stretch begins with a quick touch.
ROUND = Machine((('a', 'q', ('b',)), ('b', 'r', ('c',)), ('c', 'p', ('a',))), (3,), ('p', 'q', 'r'), 9, ('p',))
ROUND_STILL = Rule(ROUND, ((),), ((0, ('p',), (0,)),))

# Comes to an end; q alone is touched.
SHORT = Machine((('a', 'q', ('b',)), ('b', 'q', ('c',)), ('c', 'q', ())), (1,), ('p', 'q'), 1, ('p',))
SHORT_STILL = Rule(SHORT, ((),), ((0, ('p',), (0,)),))


def rules_of_all_kinds():
    for machine, watches in WATCHED:
        for watch in watches[:3]:
            yield from some_rules(machine, watch, 2, 8)
    for rule in small_rules(120, 12):
        yield rule
        if len(rule.machine.sets) * len(rule.machine.clock) <= 6:
            yield chasing(rule.machine)
    yield FOLLOWING
    yield STILL
    yield ROUND_STILL
    yield SHORT_STILL


RULES = list(rules_of_all_kinds())


class BoundTest(unittest.TestCase):

    def test_told_as_it_is(self):
        counted = {}
        for number, rule in enumerate(RULES):
            for a, b in PAIRS[number % 2::2]:
                found = bound(rule, a, b)
                self.assertIs(type(found), tuple)
                self.assertEqual(len(found), 6 if found[0] == 'most' else 5)
                self.assertTrue(bound_holds(rule, a, b, found), (rule.machine.steps, rule.states, a, b, found))
                self.assertIs(shows_bound(rule, a, b, found), True)
                kind = found[0] if found[0] == 'grows' else (found[1] > 0) - (found[1] < 0)
                counted[kind] = counted.get(kind, 0) + 1
        self.assertEqual(set(counted), {'grows', -1, 0, 1})
        self.assertGreater(min(counted.values()), 10, counted)

    def test_no_stretch_of_a_short_run_exceeds_it(self):
        reached = 0
        for number, rule in enumerate(RULES):
            a, b = PAIRS[number % len(PAIRS)]
            found = bound(rule, a, b)
            if found[0] == 'most':
                short = greatest_of_short(rule, a, b, 7, 12)
                self.assertLessEqual(short, found[1])
                reached += short == found[1]
        self.assertGreater(reached, 20)

    def test_the_told_stretch_has_it(self):
        looked_at = 0
        for number, rule in enumerate(RULES):
            a, b = PAIRS[(number + 3) % len(PAIRS)]
            found = bound(rule, a, b)
            if found[0] == 'most':
                _, d, run, turn, sets, table = found
                self.assertTrue(pays_least(rule, a, b, run, turn, sets))
                self.assertEqual(len(sets), len(turns_by_tick(rule.machine, run)) - turn)
                if len(rule.machine.sets) ** len(sets) < 5000:
                    looked_at += 1
                    self.assertEqual(excess_of(rule, a, b, run, turn), d)
        self.assertGreater(looked_at, 30)

    def test_excesses_grow_along_a_told_ring(self):
        for rule in RULES[::4]:
            found = bound(rule, 1, 9)
            if found[0] == 'grows':
                _, run, first, last, sets = found
                parts = turns_by_tick(rule.machine, run)
                at = sum(len(part) for part in parts[:first])
                end = sum(len(part) for part in parts[:last])
                for times in (1, 2, 5):
                    longer = run[:at] + run[at:end] * times + run[end:]
                    self.assertTrue(rule.machine.is_run(longer))
                    around = sets + sets[1:] * (times - 1)
                    end_of_all = first + (last - first) * times
                    self.assertTrue(bound_ring_holds(rule, 1, 9, longer, first, end_of_all, around))
                    self.assertIs(shows_bound(rule, 1, 9, ('grows', longer, first, end_of_all, around)), True)
                    if times > 1:
                        # Any round of several.
                        for at_turn in (first, end_of_all - (last - first)):
                            value = ('grows', longer, at_turn, at_turn + last - first, sets)
                            self.assertIs(shows_bound(rule, 1, 9, value), True)

    def test_no_bound_holds_along_a_told_ring(self):
        for rule in RULES[::3]:
            found = bound(rule, 1, 2)
            if found[0] == 'grows':
                _, run, first, last, sets = found
                parts = turns_by_tick(rule.machine, run)
                at, end = sum(map(len, parts[:first])), sum(map(len, parts[:last]))
                # Ahead of it the other sets pay for a turn at most, and for all that they bring in.
                ahead = 3 + rule.machine.move * 3
                for times in (20, 60):
                    longer = run[:at] + run[at:end] * times
                    self.assertGreaterEqual(excess_by_turns(rule, 1, 2, longer, first - 1), times - ahead)

    def test_no_sampled_long_run_exceeds_it(self):
        chance = random.Random(20)
        for rule in RULES[::2]:
            found = bound(rule, 5, 2)
            if found[0] == 'most':
                for _ in range(5):
                    run = (rule.machine.names[0],)
                    while len(run) < 40 and rule.machine.following(run[-1]):
                        run += (chance.choice(rule.machine.following(run[-1])),)
                    for turn in range(0, len(turns_by_tick(rule.machine, run)), 4):
                        self.assertLessEqual(excess_by_turns(rule, 5, 2, run, turn), found[1])

    def test_the_example(self):
        rule = Rule(EXAMPLE, ((),), ((0, ('p',), (0,)),))
        self.assertEqual(rule.row(('a', 'b', 'a')), (('p',), ('p',)))
        self.assertEqual(bound(rule, 1, 1)[:2], ('most', 0))

    def test_below_nothing(self):
        for a, b in ((9, 1), (2, 1), (9, 8)):
            self.assertEqual(bound(ROUND_STILL, a, b)[:2], ('most', b - a))
        # Ever slower than quick sets that cost nothing: that many moves are saved by nobody.
        self.assertEqual(bound(ROUND_STILL, 1, 1)[:2], ('most', 0))
        self.assertEqual(bound(ROUND_STILL, 1, 2)[0], 'grows')

    def test_of_a_machine_that_comes_to_an_end(self):
        # Stretches of one to three touches, or two from turn 1 on: the others may go to q behind the first touch.
        self.assertEqual(bound(SHORT_STILL, 1, 9)[1:5], (25, ('a', 'b', 'c'), 0, (('p',), ('q',), ('q',))))
        self.assertEqual(bound(SHORT_STILL, 1, 1)[1], 1)
        self.assertEqual(bound(SHORT_STILL, 2, 1)[1], -1)
        self.assertEqual(bound(SHORT_STILL, 9, 1)[1], -8)

    def test_rows_behind_a_step_that_nothing_follows(self):
        table = dict(bound(SHORT_STILL, 1, 1)[5])
        self.assertIn((0, 'c', ('q',), ('p',)), table)
        self.assertIn((0, 'c', ('q',), ('q',)), table)
        self.assertEqual(len(table), 7)

    def test_moves_behind_the_last_turn_are_not_paid(self):
        # The next set is never had, since the run ends with its only turn.
        once = Machine((('a', 'p', ()),), (1,), ('p', 'q'), 9, ('p',))
        rule = Rule(once, ((),), ((0, ('p',), (1,)), (0, ('q',), (1,))))
        self.assertEqual(bound(rule, 1, 9)[1:5], (0, ('a',), 0, (('p',),)))

    def test_what_is_paid_ahead_of_the_stretch_does_not_count(self):
        # It goes to q for 9 behind turn 0, once and for all.
        machine = Machine((('a', 'q', ('a',)),), (1,), ('p', 'q'), 9, ('p',))
        rule = Rule(machine, ((),), ((0, ('p',), (1,)), (0, ('q',), (1,))))
        self.assertEqual(bound(rule, 1, 1)[:2], ('most', 8))
        self.assertEqual(bound(rule, 9, 1)[:2], ('most', 0))
        self.assertEqual(excess_of(rule, 1, 1, ('a', 'a', 'a'), 1), 0)

    def test_tables_have_no_more_than_they_need(self):
        # A lesser height anywhere, where it is more than what starts anew, keeps some clause no more.
        for rule in RULES[:40]:
            found = bound(rule, 2, 1)
            if found[0] == 'most':
                rows = found[5]
                for at, (stand, height) in enumerate(rows):
                    less = rows[:at] + ((stand, height - 1),) + rows[at + 1:]
                    self.assertFalse(bound_table_holds(rule, 2, 1, found[1], less))

    def test_by_name_and_again(self):
        for rule in RULES[::9]:
            for a, b in PAIRS[:3]:
                found = bound(rule, a, b)
                self.assertEqual(bound(rule=rule, a=a, b=b), found)
                same = Rule(rule.machine, rule.watch, rule.states)
                self.assertEqual(bound(same, a, b), found)
                self.assertEqual(rule, same)
                self.assertIs(shows_bound(rule=rule, a=a, b=b, value=found), True)

    def test_rules_with_the_same_sets_have_the_same_bounds(self):
        chance = random.Random(6)
        for rule in RULES[::5]:
            other = doubled(rule, chance)
            for a, b in PAIRS[:4]:
                self.assertEqual(bound(rule, a, b)[:2] if bound(rule, a, b)[0] == 'most' else 'grows',
                                 bound(other, a, b)[:2] if bound(other, a, b)[0] == 'most' else 'grows')

    def test_big_machines(self):
        words = set()
        for seed, clock in ((1, (3,)), (2, (3, 3, 3)), (3, (3, 2, 3))):
            machine = big_machine(seed, clock)
            chance = random.Random(seed)
            rules = [made_up(machine, watch, chance, 12) for watch in (((),) * len(clock), (PAGES,) * len(clock))]
            if len(clock) == 1:
                rules.append(chasing(Machine(machine.steps, clock, machine.pages, 1, machine.first)))
            for rule in rules:
                for a, b in ((9, 1), (1, 1)):
                    found = bound(rule, a, b)
                    words.add(found[0])
                    self.assertTrue(bound_holds(rule, a, b, found))
                    self.assertIs(shows_bound(rule, a, b, found), True)
        self.assertEqual(words, {'most', 'grows'})


class BadWeightTest(unittest.TestCase):

    def raised(self, value, call, *passed):
        before = copy.deepcopy(value)
        with self.assertRaises(BadWeight) as caught:
            call(*passed)
        self.assertIs(caught.exception.value, value)
        self.assertEqual(value, before)

    def test_for_a_then_for_b(self):
        for value in ANY_VALUES + (0, 10, -1, True, '1', [1], (1,), {1: 1}):
            if type(value) is int and 1 <= value <= 9:
                continue
            for call, rest in ((bound, ()), (shows_bound, (('most', 0),)), (shows_bound, (bound(STILL, 1, 1),))):
                self.raised(value, call, STILL, value, 1, *rest)
                self.raised(value, call, STILL, 1, value, *rest)
                self.raised(value, call, STILL, value, 0, *rest)
                self.raised(value, call, STILL, value, None, *rest)

    def test_one_to_nine(self):
        for weight in range(1, 10):
            self.assertEqual(bound(STILL, weight, weight)[:2], ('most', 0))
            self.assertTrue(shows_bound(STILL, weight, 9, bound(STILL, weight, 9)))

    def test_rates_have_none(self):
        self.assertIs(shows_rate(STILL, 0), False)
        self.assertEqual(rate(STILL), rate(rule=STILL))


if __name__ == '__main__':
    unittest.main()
