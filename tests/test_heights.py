"""shows_fewest, shows_most and shows_warmer: heights as told, changed, and of any value."""

import copy
import random
import unittest

from oracle import cases, counts_from, heights_hold, runs_that_fit, states_of, times, total_ticks
from samples import ANY_VALUES, EXAMPLE
from seldomseen.warmth import fewest, most, shows_fewest, shows_most, shows_warmer, warmer

WATCH, JOURNAL = (('p',),), ((True,), (True,))

# Of the touches of p: behind each turn the least, and the greatest.
LEAST = ((0, ('a', ()), 2), (0, ('b', ('q',)), 1), (1, ('a', ()), 4), (1, ('a', ('q',)), 3), (1, ('b', ('q',)), 2))
GREATEST = ((0, ('a', ()), 2), (0, ('b', ('q',)), 1), (1, ('a', ()), 4), (1, ('a', ('q',)), 3), (1, ('b', ('q',)), 3))

# What is wrong by its form, beside what is said of the touches.
BAD_ROWS = (
    (2, ('a', ()), 3), (-1, ('a', ()), 3), (8, ('a', ()), 3), (True, ('a', ()), 3), (False, ('a', ()), 3),
    ('0', ('a', ()), 3), (None, ('a', ()), 3), ((0,), ('a', ()), 3), ([1], ('a', ()), 3), ({}, ('a', ()), 3),
    (1, ('c', ()), 3), (1, (None, ()), 3), (1, ('p', ()), 3), (1, ('a', ('r',)), 3), (1, ('a', ('q', 'p')), 3),
    (1, ('a', ('q', 'q')), 3), (1, ('a', 'q'), 3), (1, ('a', None), 3), (1, ('a', ['q']), 3), (1, ['a', ('q',)], 3),
    (1, ('a',), 3), (1, ('a', (), ()), 3), (1, (), 3), (1, None, 3), (1, 'a', 3), (1, (['a'], ()), 3), (1, ({}, ()), 3),
    (1, ('a', ({},)), 3), (1, ('a', (True,)), 3), (1, ('a', ('q',)), True), (1, ('a', ('q',)), None),
    (1, ('a', ('q',)), '3'), (1, ('a', ('q',)), (3,)), (1, ('a', ('q',)), [3]), (1, ('a', ('q',)), {}),
    (1, ('a', ('q',))), (1, ('a', ('q',)), 3, 3), [1, ('a', ('q',)), 3], (), None, 3, 'a', {})


COUNT = counts_from(EXAMPLE, 'p', 0, None)


def changed_at_random(chance, machine, turns, heights):
    rows = [list(row) for row in heights]
    at = chance.randrange(len(rows))
    way = chance.randrange(7)
    if way < 3:
        rows[at][2] += chance.choice((-2, -1, 1, 2))
    elif way == 3:
        rows[at][0] = chance.randrange(-1, turns + 1)
    elif way == 4:
        rows[at][1] = chance.choice(states_of(machine))
    elif way == 5:
        del rows[at]
    else:
        rows.append([chance.randrange(turns), chance.choice(states_of(machine)), chance.randrange(-3, 9)])
        rows.sort()
    return tuple(tuple(row) for row in rows)


class ToldTest(unittest.TestCase):

    def test_what_is_told(self):
        self.assertEqual(fewest(EXAMPLE, WATCH, JOURNAL, 'p'), (2, ('a', 'b', 'a', 'b'), LEAST))
        self.assertEqual(most(EXAMPLE, WATCH, JOURNAL, 'p'), (4, ('a', 'a', 'a', 'a'), GREATEST))
        self.assertIs(shows_fewest(
            machine=EXAMPLE, watch=WATCH, journal=JOURNAL, page='p', value=2, heights=LEAST, since=0, until=None), True)
        self.assertIs(shows_most(
            machine=EXAMPLE, watch=WATCH, journal=JOURNAL, page='p', value=4, heights=GREATEST, since=0, until=None), True)
        self.assertIs(shows_most(EXAMPLE, WATCH, JOURNAL, 'p', 4, LEAST), False)
        self.assertIs(shows_fewest(EXAMPLE, WATCH, JOURNAL, 'p', 2, GREATEST), False)


class RaisedAndLoweredTest(unittest.TestCase):

    def test_each_row_raised_and_lowered(self):
        for at in range(len(LEAST)):
            for by in (-3, -2, -1, 1, 2, 10 ** 17):
                for greatest, call, rows in ((False, shows_fewest, LEAST), (True, shows_most, GREATEST)):
                    for value in range(5):
                        turn, state, height = rows[at]
                        changed = rows[:at] + ((turn, state, height + by),) + rows[at + 1:]
                        wanted = heights_hold(
                            EXAMPLE, WATCH, JOURNAL, COUNT, greatest, value, changed)
                        self.assertIs(call(EXAMPLE, WATCH, JOURNAL, 'p', value, changed), wanted, (value, changed))

    def test_raised_is_too_much_for_fewest_and_lowered_for_most(self):
        for at in range(len(LEAST)):
            for greatest, by, call, rows, value in (
                    (False, 1, shows_fewest, LEAST, 2), (True, -1, shows_most, GREATEST, 4)):
                turn, state, height = rows[at]
                changed = rows[:at] + ((turn, state, height + by),) + rows[at + 1:]
                self.assertIs(call(EXAMPLE, WATCH, JOURNAL, 'p', value, changed), False)

    def test_others_that_hold_as_well(self):
        rows = tuple((turn, state, height - 1) for turn, state, height in LEAST)
        self.assertIs(shows_fewest(EXAMPLE, WATCH, JOURNAL, 'p', 1, rows), True)
        self.assertIs(shows_fewest(EXAMPLE, WATCH, JOURNAL, 'p', 2, rows), False)
        rows = tuple((turn, state, height + 1) for turn, state, height in GREATEST)
        self.assertIs(shows_most(EXAMPLE, WATCH, JOURNAL, 'p', 5, rows), True)
        self.assertIs(shows_most(EXAMPLE, WATCH, JOURNAL, 'p', 4, rows), False)


class OtherRowsTest(unittest.TestCase):

    def test_left_out_doubled_and_out_of_order(self):
        for call, rows, value in ((shows_fewest, LEAST, 2), (shows_most, GREATEST, 4)):
            for at in range(len(rows)):
                changes = [rows[:at] + rows[at + 1:], rows[:at] + rows[at:at + 1] + rows[at:]]
                turn, state, height = rows[at]
                changes += [rows[:at] + ((turn, state, height + by),) + rows[at:] for by in (-1, 1)]
                changes += [rows[:at + 1] + ((turn, state, height + by),) + rows[at + 1:] for by in (-1, 1)]
                if at:
                    changes.append(rows[:at - 1] + (rows[at], rows[at - 1]) + rows[at + 1:])
                for changed in changes:
                    self.assertIs(call(EXAMPLE, WATCH, JOURNAL, 'p', value, changed), False, changed)
            for changed in ((), rows[::-1], list(rows), tuple(list(row) for row in rows), {row: 1 for row in rows}):
                self.assertIs(call(EXAMPLE, WATCH, JOURNAL, 'p', value, changed), False, changed)

    def test_states_to_which_no_run_comes(self):
        # They are looked at, too: from them the next turn leads on, or they stand behind the last one.
        for state in (('a', ('p',)), ('a', ('p', 'q')), ('b', ()), ('b', ('p', 'q'))):
            for turn in (0, 1):
                for height in (-9, 0, 1, 2, 3, 4, 5, 9):
                    for greatest, call, rows in ((False, shows_fewest, LEAST), (True, shows_most, GREATEST)):
                        value = 4 if greatest else 2
                        changed = tuple(sorted(rows + ((turn, state, height),)))
                        wanted = heights_hold(
                            EXAMPLE, WATCH, JOURNAL, COUNT, greatest, value, changed)
                        self.assertIs(call(EXAMPLE, WATCH, JOURNAL, 'p', value, changed), wanted, changed)

    def test_rows_of_other_kinds(self):
        for bad in BAD_ROWS:
            for at in range(len(LEAST) + 1):
                for call, rows, value in ((shows_fewest, LEAST, 2), (shows_most, GREATEST, 4)):
                    for changed in (rows[:at] + (bad,) + rows[at:], rows[:at] + (bad,) + rows[at + 1:]):
                        before = copy.deepcopy(changed)
                        self.assertIs(call(EXAMPLE, WATCH, JOURNAL, 'p', value, changed), False, changed)
                        self.assertEqual(changed, before)

    def test_turns_that_the_journal_has_not(self):
        # So high or low that all that comes from them is as it must be.
        for turn in (-2, -1, 2, 3, 8):
            for call, rows, value, height in ((shows_fewest, LEAST, 2, 99), (shows_most, GREATEST, 4, -99)):
                bad = (turn, ('b', ('p', 'q')), height)
                self.assertIs(call(EXAMPLE, WATCH, JOURNAL, 'p', value, tuple(sorted(rows + (bad,)))), False)
                good = (0,) + bad[1:]
                self.assertIs(call(EXAMPLE, WATCH, JOURNAL, 'p', value, tuple(sorted(rows + (good,)))), True)

    def test_any_value(self):
        for value in ANY_VALUES:
            for call, rows, told in ((shows_fewest, LEAST, 2), (shows_most, GREATEST, 4)):
                self.assertIs(call(EXAMPLE, WATCH, JOURNAL, 'p', told, value), False)
                self.assertIs(call(EXAMPLE, WATCH, JOURNAL, 'p', told, (value,)), False)
                self.assertIs(call(EXAMPLE, WATCH, JOURNAL, 'p', told, rows + (value,)), False)
                if type(value) is not int:
                    self.assertIs(call(EXAMPLE, WATCH, JOURNAL, 'p', value, rows), False)

    def test_a_bool_for_an_integer(self):
        # True stands for 1 where Python compares, and so only its kind tells that it is wrong.
        rows = ((0, ('a', ()), 1), (0, ('b', ('q',)), 1))
        self.assertIs(shows_fewest(EXAMPLE, WATCH, JOURNAL[:1], 'p', 1, rows), True)
        self.assertIs(shows_fewest(EXAMPLE, WATCH, JOURNAL[:1], 'p', 1, ((0, ('a', ()), 1), (0, ('b', ('q',)), True))), False)
        self.assertIs(shows_fewest(EXAMPLE, WATCH, JOURNAL[:1], 'p', 1, ((False, ('a', ()), 1),) + rows[1:]), False)
        self.assertIs(shows_fewest(EXAMPLE, WATCH, JOURNAL[:1], 'p', True, rows), False)
        self.assertIs(shows_most(EXAMPLE, WATCH, JOURNAL[:1], 'p', True, GREATEST[:2]), False)


class RandomTest(unittest.TestCase):

    def test_heights_changed_at_random(self):
        chance = random.Random(11)
        counted = {True: 0, False: 0}
        for at, (machine, watch, journal) in enumerate(cases(5, 6)):
            if not runs_that_fit(machine, watch, journal):
                continue
            page = machine.pages[at % len(machine.pages)]
            since = at % 3
            until = (None, total_ticks(machine, len(journal)) - 1, since + 2)[at % 3]
            until = None if until is not None and until < since else until
            count = counts_from(machine, page, since, until)
            for greatest, call, show in ((False, fewest, shows_fewest), (True, most, shows_most)):
                value, _, heights = call(machine, watch, journal, page, since=since, until=until)
                for _ in range(8):
                    changed = changed_at_random(chance, machine, len(journal), heights)
                    told = value + chance.choice((0, 0, 1, -1))
                    wanted = heights_hold(machine, watch, journal, count, greatest, told, changed)
                    counted[wanted] += 1
                    self.assertIs(
                        show(machine, watch, journal, page, told, changed, since=since, until=until), wanted,
                        (machine.steps, watch, journal, page, told, changed))
                    if wanted:
                        # What is shown is so.
                        many = [times(machine, run, page, since, until) for run in runs_that_fit(machine, watch, journal)]
                        self.assertTrue(max(many) <= told if greatest else min(many) >= told)
        self.assertGreater(min(counted.values()), 300)


class NoRunTest(unittest.TestCase):

    def test_where_no_run_fits_heights_may_hold_for_any_value(self):
        watch, journal = (('p', 'q'),), ((False, True),)
        for value in (-10 ** 17, -1, 0, 1, 9, 10 ** 17):
            for call in (shows_fewest, shows_most):
                self.assertIs(call(EXAMPLE, watch, journal, 'p', value, ()), True)
                self.assertIs(call(EXAMPLE, watch, journal, 'p', value, None), False)
        rows = ((0, ('a', ()), 3),)
        self.assertIs(shows_fewest(EXAMPLE, watch, journal, 'p', 3, rows), True)
        self.assertIs(shows_fewest(EXAMPLE, watch, journal, 'p', 4, rows), False)
        self.assertIs(shows_most(EXAMPLE, watch, journal, 'p', 3, rows), True)
        self.assertIs(shows_most(EXAMPLE, watch, journal, 'p', 2, rows), False)

    def test_stuck_behind_turns_that_have_runs(self):
        watch, journal = (('p', 'q'),), ((True, True), (False, True))
        for call in (shows_fewest, shows_most):
            self.assertIs(call(EXAMPLE, watch, journal, 'p', 5, ()), False)
            self.assertIs(call(EXAMPLE, watch, journal, 'p', 5, ((0, ('b', ()), 1),)), True)
            self.assertIs(call(EXAMPLE, watch, journal, 'p', 5, ((0, ('b', ()), 1), (1, ('a', ()), 5))), True)
        self.assertIs(shows_fewest(EXAMPLE, watch, journal, 'p', 5, ((0, ('b', ()), 2),)), False)
        self.assertIs(shows_fewest(EXAMPLE, watch, journal, 'p', 5, ((0, ('b', ()), 0),)), True)
        self.assertIs(shows_most(EXAMPLE, watch, journal, 'p', 5, ((0, ('b', ()), 2),)), True)
        self.assertIs(shows_most(EXAMPLE, watch, journal, 'p', 5, ((0, ('b', ()), 0),)), False)


class ShowsWarmerTest(unittest.TestCase):

    def test_heights_with_something_otherwise(self):
        found = warmer(EXAMPLE, WATCH, JOURNAL, 'p', 'q')
        self.assertEqual(found[0], 'surely')
        self.assertIs(shows_warmer(EXAMPLE, WATCH, JOURNAL, 'p', 'q', found), True)
        count, less = counts_from(EXAMPLE, 'q', 0, None), counts_from(EXAMPLE, 'p', 0, None)
        chance = random.Random(3)
        counted = {True: 0, False: 0}
        for _ in range(400):
            rows = changed_at_random(chance, EXAMPLE, 2, found[1])
            wanted = heights_hold(
                EXAMPLE, WATCH, JOURNAL, lambda tick, name: count(tick, name) - less(tick, name), True, 0, rows)
            counted[wanted] += 1
            self.assertIs(shows_warmer(EXAMPLE, WATCH, JOURNAL, 'p', 'q', ('surely', rows)), wanted, rows)
            self.assertIs(shows_warmer(EXAMPLE, WATCH, JOURNAL, 'q', 'p', ('surely', rows)), False)
        self.assertGreater(min(counted.values()), 30)

    def test_words_and_runs(self):
        rows = warmer(EXAMPLE, WATCH, JOURNAL, 'p', 'q')[1]
        run = ('a', 'a', 'a', 'b')
        self.assertIs(shows_warmer(EXAMPLE, WATCH, JOURNAL, 'q', 'p', ('not', run)), True)
        # As many touches of both are not more.
        self.assertIs(shows_warmer(EXAMPLE, WATCH, JOURNAL, 'q', 'p', ('not', ('a', 'b', 'a', 'b'))), False)
        for value in (
                ('not', run[:3]), ('not', run + ('a',)), ('not', run + ('a', 'a')), ('not', list(run)), ['not', run],
                ('not', ()), ('not', ('b',) + run[1:]), ('not', None), ('not', 'a'), ('not',), ('not', run, run),
                ('Not', run), ('surely', run), ('surely', rows), ('no', run), (None, run), (True, run), (['not'], run),
                ({}, run), run, rows, (), {'not': run}, ('not', ('a', 'b', 'b', 'a')), ('not', (['a'], 'a', 'a', 'b')),
                ('not', ('a', {}, 'a', 'b'))):
            before = copy.deepcopy(value)
            self.assertIs(shows_warmer(EXAMPLE, WATCH, JOURNAL, 'q', 'p', value), False, value)
            self.assertEqual(value, before)
        for value in (('surely',), ('surely', rows, rows), ['surely', rows], ('surely', list(rows)), ('not', rows),
                      ('Surely', rows), ('surely', ()), ('surely', None), (rows, 'surely'), ('surely', rows[1:])):
            self.assertIs(shows_warmer(EXAMPLE, WATCH, JOURNAL, 'p', 'q', value), False, value)

    def test_any_value(self):
        for value in ANY_VALUES:
            for one, other in (('p', 'q'), ('q', 'p'), ('p', 'p')):
                for told in (value, ('surely', value), ('not', value), (value, ()), ('not', (value,) * 4)):
                    wanted = (one, other, told) == ('q', 'p', ('not', ('a', 'a', 'a', 'a')))
                    self.assertIs(shows_warmer(EXAMPLE, WATCH, JOURNAL, one, other, told), wanted)

    def test_heights_where_no_run_fits(self):
        watch, journal = (('p', 'q'),), ((True, True), (False, True))
        for one, other in (('p', 'q'), ('q', 'p'), ('q', 'q')):
            found = warmer(EXAMPLE, watch, journal, one, other)
            self.assertEqual(found, ('surely', ((0, ('b', ()), 0),)))
            self.assertIs(shows_warmer(EXAMPLE, watch, journal, one, other, found), True)
            self.assertIs(shows_warmer(EXAMPLE, watch, journal, one, other, ('surely', ((0, ('b', ()), 9),))), True)
            self.assertIs(shows_warmer(EXAMPLE, watch, journal, one, other, ('surely', ())), False)
            self.assertIs(shows_warmer(EXAMPLE, watch, journal, one, other, ('not', ('a', 'b', 'a', 'b'))), False)


if __name__ == '__main__':
    unittest.main()
