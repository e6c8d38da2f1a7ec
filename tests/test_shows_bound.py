import copy
import random
import unittest

from changes import some_changed
from oracle import states_of, total_ticks
from rulebook import FOLLOWING, STILL, chasing, small_machine
from samples import ANY_VALUES, EXAMPLE, turns_by_tick
from seldomseen.bounds import bound, rate, shows_bound, shows_rate
from seldomseen.machines import Machine
from seldomseen.rules import Rule
from stretches import all_fractions, bound_holds, excess_of
from test_bounds import RULES, SHORT, SHORT_STILL

FIRST = (0, None, (), ('p',))
MOST = bound(STILL, 1, 1)
GROWS = bound(FOLLOWING, 1, 9)


def names_of(rule):
    machine = rule.machine
    return machine.names + machine.pages + ('most', 'grows', 'Most', '')


def with_table(found, table):
    return found[:5] + (tuple(table),)


class TableTest(unittest.TestCase):

    def test_each_row_with_one_thing_otherwise(self):
        kept = 0
        for rule in RULES[::5] + [STILL, SHORT_STILL]:
            found = bound(rule, 3, 2)
            if found[0] == 'grows':
                continue
            rows = found[5]
            for at, (stand, height) in enumerate(rows):
                for changed in (
                        rows[:at] + rows[at + 1:], rows[:at] + (rows[at],) + rows[at:], rows[:at] + ((stand, height),),
                        rows[:at] + ((stand, height + 1),) + rows[at + 1:], rows[:at] + ((stand, height - 1),) + rows[at + 1:],
                        rows[:at] + ([stand, height],) + rows[at + 1:], rows[:at] + ((list(stand), height),) + rows[at + 1:],
                        rows[:at] + ((stand, bool(height)),) + rows[at + 1:], rows[:at] + ((stand, None),) + rows[at + 1:],
                        rows[:at] + ((stand, height, 0),) + rows[at + 1:], rows[:at] + (stand,) + rows[at + 1:],
                        rows[at:] + rows[:at], rows[:at] + ((stand + ((),), height),) + rows[at + 1:]):
                    value = with_table(found, changed)
                    wanted = bound_holds(rule, 3, 2, value)
                    kept += wanted
                    self.assertIs(shows_bound(rule, 3, 2, value), wanted, (rule.states, value))
        # Heights may be greater where nothing comes behind them.
        self.assertGreater(kept, 20)

    def test_further_rows(self):
        counted = {True: 0, False: 0}
        chance = random.Random(4)
        for rule in RULES[::3]:
            found = bound(rule, 9, 4)
            if found[0] == 'grows':
                continue
            have = dict(found[5])
            stands = [(number, step, pages, chosen) for number in range(len(rule.states))
                      for step, pages in states_of(rule.machine) for chosen in rule.machine.sets]
            # All stands by their form, low enough or too high.
            for height in (-10 ** 6, -3, 0, 50):
                table = dict({stand: height for stand in stands if stand not in have}, **{})
                table.update(have)
                rows = sorted(table.items(), key=lambda row: (row[0][0], row[0][1] or '', row[0][2], row[0][3]))
                value = with_table(found, rows)
                wanted = bound_holds(rule, 9, 4, value)
                counted[wanted] += 1
                self.assertIs(shows_bound(rule, 9, 4, value), wanted)
            for _ in range(4):
                table = dict(have)
                for stand in chance.sample(stands, min(2, len(stands))):
                    table.setdefault(stand, chance.randrange(-30, 10))
                rows = sorted(table.items(), key=lambda row: (row[0][0], row[0][1] or '', row[0][2], row[0][3]))
                value = with_table(found, rows)
                wanted = bound_holds(rule, 9, 4, value)
                counted[wanted] += 1
                self.assertIs(shows_bound(rule, 9, 4, value), wanted)
        self.assertGreater(min(counted.values()), 30)

    def test_numbers_of_no_state(self):
        rows = MOST[5]
        for number in (1, 2, 12, -1):
            for height in (0, -50):
                row = ((number, 'a', ('p',), ('q',)), height)
                self.assertIs(shows_bound(STILL, 1, 1, with_table(MOST, rows + (row,))), False)
                self.assertIs(shows_bound(STILL, 1, 1, with_table(MOST, (row,) + rows)), False)

    def test_the_beginning(self):
        rows = MOST[5]
        self.assertEqual(rows[0], (FIRST, 0))
        self.assertIs(shows_bound(STILL, 1, 1, MOST), True)
        for stand in ((0, None, (), ('q',)), (0, None, ('p',), ('p',)), (1, None, (), ('p',)), (False, None, (), ('p',)),
                      (0, None, [], ('p',)), (0, None, (), ['p']), (0, '', (), ('p',)), (None, None, (), ('p',)),
                      (0, None, (), ('p',), ())):
            self.assertIs(shows_bound(STILL, 1, 1, with_table(MOST, ((stand, 0),) + rows[1:])), False, stand)
            self.assertIs(shows_bound(STILL, 1, 1, with_table(MOST, rows[:1] + ((stand, 0),) + rows[1:])), False, stand)
        self.assertIs(shows_bound(STILL, 1, 1, with_table(MOST, rows[1:])), False)
        self.assertIs(shows_bound(STILL, 1, 1, with_table(MOST, ((FIRST, -1),) + rows[1:])), False)
        self.assertIs(shows_bound(STILL, 1, 1, with_table(MOST, ((FIRST, False),) + rows[1:])), False)

    def test_none_stands_ahead_of_all_names(self):
        rows = MOST[5]
        self.assertIs(shows_bound(STILL, 1, 1, with_table(MOST, rows[1:] + rows[:1])), False)
        two = Rule(EXAMPLE, ((),), ((0, ('p',), (0,)), (0, ('p',), (1,))))
        found = bound(two, 1, 1)
        more = found[5] + tuple(((1,) + stand[1:], height) for stand, height in found[5][1:])
        self.assertTrue(bound_holds(two, 1, 1, with_table(found, more)))
        self.assertIs(shows_bound(two, 1, 1, with_table(found, more)), True)
        self.assertIs(shows_bound(two, 1, 1, with_table(found, more + (((1, None, (), ('p',)), 0),))), False)
        self.assertIs(shows_bound(two, 1, 1, with_table(found, more[len(found[5]):] + found[5])), False)

    def test_what_begins_anew_is_no_lower_than_nothing(self):
        # Behind its only touch nothing follows: no clause but that of the rule's next set is about its height.
        machine = Machine((('a', 'q', ()),), (1,), ('p', 'q'), 3, ('p',))
        rule = Rule(machine, ((),), ((0, ('p',), (0,)),))
        found = bound(rule, 9, 1)
        self.assertEqual(found[1], -8)
        stand = (0, 'a', ('q',), ('p',))
        self.assertIn((stand, 0), found[5])
        for height, wanted in ((-1, False), (0, True), (1, True), (10 ** 9, True)):
            rows = [(other, height if other == stand else there) for other, there in found[5]]
            self.assertIs(shows_bound(rule, 9, 1, with_table(found, rows)), wanted)

    def test_each_tick_counts(self):
        # Beside q each turn gains behind its first tick, and no more behind its second one.
        machine = Machine((('a', 'q', ('b',)), ('b', 'p', ('a',))), (2,), ('p', 'q'), 0, ('p',))
        rule = Rule(machine, ((),), ((0, ('p',), (0,)),))
        found = bound(rule, 1, 1)
        self.assertEqual(found[:2], ('most', 1))
        self.assertEqual(len(found[2]) % 2, 1)
        less = [(stand, height) for stand, height in found[5]]
        self.assertEqual({height for stand, height in less}, {0})
        for d in (0, 1, 2):
            for run in (('a', 'b'), ('a', 'b', 'a')):
                value = ('most', d, run, 0, (('p',), ('q',))[:len(run) - 1], found[5])
                self.assertIs(shows_bound(rule, 1, 1, value), (d, len(run)) == (1, 3))


class MostTest(unittest.TestCase):

    def test_with_one_or_two_parts_otherwise(self):
        chance = random.Random(31)
        counted = {True: 0, False: 0}
        for number, rule in enumerate(RULES[::2]):
            for a, b in ((9, 2), (3, 1)):
                found = bound(rule, a, b)
                for value in some_changed(chance, found, names_of(rule), 15):
                    wanted = bound_holds(rule, a, b, value)
                    counted[wanted] += 1
                    before = copy.deepcopy(value)
                    self.assertIs(shows_bound(rule, a, b, value), wanted, (rule.states, value))
                    self.assertEqual(value, before)
        self.assertGreater(min(counted.values()), 100)

    def test_any_run_that_has_it(self):
        # All stretches of short runs with all that pays least, and with sets that pay more.
        for rule in (STILL, SHORT_STILL):
            for a, b in ((1, 1), (2, 1)):
                found = bound(rule, a, b)
                others = {True: 0, False: 0}
                for length in range(1, 6):
                    for run in rule.machine.runs(length):
                        for turn in range(len(turns_by_tick(rule.machine, run))):
                            excess = excess_of(rule, a, b, run, turn)
                            many = len(turns_by_tick(rule.machine, run)) - turn
                            for sets in ((('p',),) * many, (('p',),) + (('q',),) * (many - 1), (('q',),) * many):
                                value = found[:2] + (run, turn, sets) + found[5:]
                                wanted = bound_holds(rule, a, b, value)
                                self.assertTrue(not wanted or excess == found[1])
                                others[wanted] += 1
                                self.assertIs(shows_bound(rule, a, b, value), wanted)
                self.assertGreater(min(others.values()), 0)

    def test_greater_and_lesser_bounds(self):
        for rule in RULES[::6]:
            found = bound(rule, 9, 3)
            if found[0] == 'most':
                for more in (1, -1, 5, -5):
                    self.assertIs(shows_bound(rule, 9, 3, ('most', found[1] + more) + found[2:]), False)
                for odd in (bool(found[1]), str(found[1]), None, (found[1],)):
                    self.assertIs(shows_bound(rule, 9, 3, ('most', odd) + found[2:]), False)
                self.assertFalse(shows_bound(rule, 9, 4, found) and not bound_holds(rule, 9, 4, found))

    def test_bools_in_place_of_integers(self):
        found = bound(SHORT_STILL, 1, 1)
        self.assertEqual((found[1], found[3]), (1, 0))
        self.assertIs(shows_bound(SHORT_STILL, 1, 1, found), True)
        self.assertIs(shows_bound(SHORT_STILL, 1, 1, found[:1] + (True,) + found[2:]), False)
        self.assertIs(shows_bound(SHORT_STILL, 1, 1, found[:3] + (False,) + found[4:]), False)

    def test_turns_that_the_run_has_not(self):
        for turn in (1, 2, 3, -1, -2):
            for sets in ((), (('p',),), (('p',), ('p',))):
                self.assertIs(shows_bound(STILL, 1, 1, MOST[:2] + (('a', 'b'), turn, sets) + MOST[5:]), False)

    def test_forms(self):
        for value in (
                MOST[:5], MOST + (0,), list(MOST), MOST[1:], ('grows',) + MOST[1:], ('grows',) + MOST[1:5], ('Most',) + MOST[1:],
                (['most'],) + MOST[1:], (None,) + MOST[1:], MOST[:2] + (list(MOST[2]),) + MOST[3:],
                MOST[:4] + (list(MOST[4]),) + MOST[5:], MOST[:5] + (list(MOST[5]),), MOST[:5] + (dict(MOST[5]),),
                MOST[:5] + ((),), MOST[:5] + (None,), {'most': MOST}, 'most', ('most',), ()):
            self.assertIs(shows_bound(STILL, 1, 1, value), False, value)


class GrowsTest(unittest.TestCase):

    def test_with_each_part_otherwise(self):
        _, run, first, last, sets = GROWS
        self.assertIs(shows_bound(FOLLOWING, 1, 9, GROWS), True)
        for value in (
                GROWS[:4], GROWS + (0,), list(GROWS), ('most',) + GROWS[1:], ('Grows',) + GROWS[1:],
                ('grows', list(run), first, last, sets), ('grows', run[:-1], first, last, sets),
                ('grows', run[1:], first, last, sets), ('grows', run, bool(first), last, sets),
                ('grows', run, first, str(last), sets), ('grows', run, last, first, sets),
                ('grows', run, first, first, sets[:1]), ('grows', run, first, last + 1, sets + sets[-1:]),
                ('grows', run, first, last, sets[:-1]), ('grows', run, first, last, sets + sets[-1:]),
                ('grows', run, first, last, list(sets)), ('grows', run, -1, last, sets),
                ('grows', run, 0, last, sets[-1:] + sets), ('grows', run, first, last, (list(sets[0]),) + sets[1:])):
            wanted = bound_holds(FOLLOWING, 1, 9, value)
            self.assertIs(shows_bound(FOLLOWING, 1, 9, value), wanted, value)
            self.assertFalse(wanted)

    def test_all_rings_of_short_runs(self):
        counted = {True: 0, False: 0}
        for rule in (FOLLOWING, STILL, SHORT_STILL):
            for a, b in ((1, 1), (1, 2), (1, 9)):
                for turns in (1, 2, 3):
                    if total_ticks(rule.machine, turns) > 6:
                        continue
                    for run in rule.machine.runs(total_ticks(rule.machine, turns)):
                        for first in range(turns):
                            for last in range(first + 1, turns + 1):
                                for other in rule.machine.sets:
                                    for between in rule.machine.sets:
                                        sets = (other,) + (between,) * (last - first - 1) + (other,)
                                        value = ('grows', run, first, last, sets)
                                        wanted = bound_holds(rule, a, b, value)
                                        counted[wanted] += 1
                                        self.assertIs(shows_bound(rule, a, b, value), wanted)
        self.assertGreater(min(counted.values()), 30)

    def test_with_one_or_two_parts_otherwise(self):
        chance = random.Random(8)
        counted = {True: 0, False: 0}
        for rule in RULES:
            found = bound(rule, 1, 3)
            if found[0] == 'grows':
                for value in some_changed(chance, found, names_of(rule), 20):
                    wanted = bound_holds(rule, 1, 3, value)
                    counted[wanted] += 1
                    self.assertIs(shows_bound(rule, 1, 3, value), wanted, (rule.states, value))
        self.assertGreater(min(counted.values()), 100)

    def test_other_sets_at_both_ends(self):
        # The sets begin and end alike: else a ring could pay for what is brought in but once.
        for rule in RULES[::3]:
            found = bound(rule, 1, 9)
            if found[0] == 'grows':
                sets = found[4]
                for other in rule.machine.sets:
                    for value in (found[:4] + ((other,) + sets[1:],), found[:4] + (sets[:-1] + (other,),),
                                  found[:4] + ((other,) + sets[1:-1] + (other,),)):
                        self.assertIs(shows_bound(rule, 1, 9, value), bound_holds(rule, 1, 9, value))

    def test_runs_that_go_on_behind_the_ring(self):
        _, run, first, last, sets = GROWS
        for more in (('a', 'a'), ('a', 'b', 'a', 'a')):
            self.assertIs(shows_bound(FOLLOWING, 1, 9, ('grows', run + more, first, last, sets)), True)
        self.assertIs(shows_bound(FOLLOWING, 1, 9, ('grows', run + ('a',), first, last, sets)), False)


def rules_of_all_rates():
    """One or two rules for each rate that comes up."""
    chance, many = random.Random(5), {}
    rules = RULES[:40] + [chasing(machine) for machine in [
        small_machine(chance, most_move=3, most_turns=2, most_ticks=2) for _ in range(260)]
        if len(machine.sets) * len(machine.clock) <= 12]
    for rule in rules:
        found = rate(rule)
        key = found and found[:2]
        many[key] = many.get(key, 0) + 1
        if many[key] <= 2:
            yield rule


# Of several rings: what grows for 7 / 1 does not for 8 / 1.
SEVERAL = Machine(
    (('h', 'q', ('b', 'g')), ('b', 'p', ('a', 'g', 'h')), ('g', None, ('a', 'g')), ('a', 'q', ('a', 'b', 'g'))), (2, 1),
    ('p', 'q'), 3, ('q',))
RATED = list(rules_of_all_rates()) + [chasing(SEVERAL)]


class AnyValueTest(unittest.TestCase):

    def test_any_value(self):
        for value in ANY_VALUES:
            for told in [value] + [MOST[:at] + (value,) + MOST[at + 1:] for at in range(6)] + [
                    GROWS[:at] + (value,) + GROWS[at + 1:] for at in range(5)] + [
                    MOST[:5] + (MOST[5] + (value,),), MOST[:5] + (((value, 0),) + MOST[5],),
                    MOST[:5] + (MOST[5][:1] + ((MOST[5][1][0], value),) + MOST[5][2:],)]:
                before = copy.deepcopy(told)
                for rule, a, b in ((STILL, 1, 1), (FOLLOWING, 1, 9)):
                    self.assertIs(shows_bound(rule, a, b, told), bound_holds(rule, a, b, told), told)
                self.assertEqual(told, before)

    def test_any_value_in_a_stand(self):
        stand, height = MOST[5][1]
        for value in ANY_VALUES:
            for at in range(4):
                changed = stand[:at] + (value,) + stand[at + 1:]
                rows = MOST[5][:1] + ((changed, height),) + MOST[5][2:]
                told = with_table(MOST, rows)
                self.assertIs(shows_bound(STILL, 1, 1, told), bound_holds(STILL, 1, 1, told), told)


class RateTest(unittest.TestCase):

    def test_the_least_fraction(self):
        fractions, told = all_fractions(), {}
        self.assertEqual((len(fractions), fractions[0], fractions[-1]), (55, (1, 9), (9, 1)))
        for rule in RATED:
            found = rate(rule)
            words = [bound(rule, a, b)[0] for a, b in fractions]
            many = words.count('grows')
            self.assertEqual(words, ['grows'] * many + ['most'] * (55 - many))
            if many == 55:
                self.assertIsNone(found)
            else:
                a, b = fractions[many]
                lower = None if many == 0 else bound(rule, *fractions[many - 1])
                self.assertEqual(found, (a, b, bound(rule, a, b), lower))
            self.assertIs(shows_rate(rule, found), True)
            self.assertIs(shows_rate(rule=rule, value=rate(rule=rule)), True)
            told[found and found[:2]] = rule
        self.assertIn(None, told)
        self.assertIn((1, 9), told)
        self.assertGreater(len(told), 5)

    def test_the_next_lesser_fraction_and_no_other_one(self):
        rule = chasing(SEVERAL)
        a, b, told, lower = rate(rule)
        self.assertEqual((a, b), (9, 1))
        self.assertIs(shows_rate(rule, (a, b, told, bound(rule, 8, 1))), True)
        self.assertIs(shows_rate(rule, (a, b, told, bound(rule, 7, 1))), False)
        self.assertIs(shows_bound(rule, 7, 1, bound(rule, 7, 1)), True)

    def test_none_alone_if_it_is_told(self):
        for rule in RATED:
            self.assertIs(shows_rate(rule, None), rate(rule) is None)

    def test_with_each_part_otherwise(self):
        fractions = all_fractions()
        checked = 0
        for rule in RATED:
            found = rate(rule)
            if found is None:
                continue
            a, b, told, lower = found
            for c, d in fractions:
                good = (c, d) == (a, b)
                self.assertIs(shows_rate(rule, (c, d, told, lower)), good)
                if c * b > a * d:
                    at = fractions.index((c, d))
                    self.assertIs(shows_rate(rule, (c, d, bound(rule, c, d), bound(rule, *fractions[at - 1]))), False)
                elif not good:
                    at = fractions.index((c, d))
                    self.assertIs(shows_rate(rule, (c, d, bound(rule, c, d), at and bound(rule, *fractions[at - 1]))), False)
                    self.assertIs(shows_rate(rule, (c, d, told, bound(rule, c, d))), False)
            for value in ((a, b, told), (a, b, told, lower, None), [a, b, told, lower], (str(a), b, told, lower),
                          (a, b, list(told), lower), (a, b, told, list(lower or ())), (a, b, lower, told),
                          (a, b, None, lower), (a, b, told, told), (2 * a, 2 * b, told, lower), (b, a, told, lower)):
                good = value == (a, b, told, lower)
                self.assertIs(shows_rate(rule, value), good, value)
            self.assertIs(shows_rate(rule, (a, b, told, None)), lower is None)
            if a == 1:
                self.assertIs(shows_rate(rule, (True, b, told, lower)), False)
            if b == 1:
                self.assertIs(shows_rate(rule, (a, True, told, lower)), False)
            checked += lower is not None
        self.assertGreater(checked, 5)

    def test_other_answers_that_show_the_same(self):
        chance = random.Random(10)
        counted = {True: 0, False: 0}
        fractions = all_fractions()
        for rule in RATED * 4:
            found = rate(rule)
            if found is None:
                continue
            a, b, told, lower = found
            less = fractions[fractions.index((a, b)) - 1]
            for value in some_changed(chance, found, names_of(rule), 6):
                if value is None or type(value) is not tuple or len(value) != 4:
                    wanted = False
                else:
                    wanted = type(value[0]) is int and type(value[1]) is int and value[:2] == (a, b)
                    wanted = wanted and bound_holds(rule, a, b, value[2]) and value[2][0] == 'most'
                    if (a, b) == (1, 9):
                        wanted = wanted and value[3] is None
                    else:
                        wanted = wanted and bound_holds(rule, *less, value[3]) and value[3][0] == 'grows'
                counted[wanted] += 1
                self.assertIs(shows_rate(rule, value), wanted, value)
        self.assertGreater(min(counted.values()), 20)

    def test_any_value(self):
        good = rate(STILL)
        self.assertIsNotNone(good)
        for value in ANY_VALUES:
            if value is not None:
                self.assertIs(shows_rate(STILL, value), False)
            for at in range(4):
                told = good[:at] + (value,) + good[at + 1:]
                self.assertIs(shows_rate(STILL, told), type(value) is type(good[at]) and told == good)


if __name__ == '__main__':
    unittest.main()
