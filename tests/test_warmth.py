import unittest
from itertools import product

from oracle import (
    ENDING, LINE, cases, counts_from, heights_hold, marks_by_tick, page_of, runs_by_journal, runs_that_fit, ticks_ago,
    ticks_in, times, total_ticks)
from samples import DEAR, EXAMPLE, FREE, MIXED, slow_in
from seldomseen.fitting import how_many, where
from seldomseen.machines import Machine
from seldomseen.warmth import (
    age, fewest, most, shows_fewest, shows_most, shows_warmer, slow, touches, warmer, warmest)
from seldomseen.watches import seen

CASES = list(cases(6, 8))


def ranges(total):
    """since and until within, at and beyond the ends; some of them left out."""
    return (
        {}, {'since': 0}, {'until': None}, {'since': 1}, {'until': total - 1}, {'until': 0}, {'since': total},
        {'since': total + 1, 'until': total + 9}, {'since': 1, 'until': total}, {'since': 2, 'until': total + 1},
        {'since': 1, 'until': 1}, {'since': 0, 'until': 10 ** 17}, {'since': 10 ** 17}, {'since': total // 2, 'until': None},
        {'since': total // 3, 'until': total // 3 + 2})


def some_ranges(at, total):
    """Everything, and three more ranges, which other ones come to by turns."""
    told = ranges(total)
    return [{}] + [told[(at * 3 + k) % len(told)] for k in range(3)]


class ExampleTest(unittest.TestCase):

    def test_example_of_section_8(self):
        machine = Machine((('a', 'p', ('a', 'b')), ('b', 'q', ('a',))), (2,), ('p', 'q'), 1, ('p',))
        watch, journal = (('p',),), ((True,), (True,))
        self.assertEqual(
            [how_many(machine, watch, journal), where(machine, watch, journal, 3),
             touches(machine, watch, journal, 'p'), touches(machine, watch, journal, 'q'),
             warmer(machine, watch, journal, 'p', 'q')[0], age(machine, watch, journal, 'q')],
            [5, ('a', 'b'), (2, 4), (0, 2), 'surely', (0, 4)])


class TouchesTest(unittest.TestCase):

    def test_against_all_runs_that_fit(self):
        for at, (machine, watch, journal) in enumerate(CASES):
            runs = runs_that_fit(machine, watch, journal)
            for page in machine.pages:
                for named in some_ranges(at, total_ticks(machine, len(journal))):
                    told = [times(machine, run, page, **named) for run in runs]
                    self.assertEqual(
                        touches(machine, watch, journal, page, **named), (min(told), max(told)) if runs else None)

    def test_all_ranges_of_one_journal(self):
        machine = Machine(FREE.steps, (2, 1), ('a', 'b', 'c', 'q'), 0, ('b',))
        watch, journal = (('c',), ()), ((False,), (), (True,), ())
        runs = runs_that_fit(machine, watch, journal)
        self.assertGreater(len(runs), 3)
        for page, since, until in product(machine.pages, range(9), (None, *range(9))):
            if until is None or until >= since:
                told = [times(machine, run, page, since, until) for run in runs]
                self.assertEqual(
                    touches(machine, watch, journal, page, since=since, until=until), (min(told), max(told)))
                self.assertEqual(fewest(machine, watch, journal, page, since=since, until=until)[0], min(told))
                self.assertEqual(most(machine, watch, journal, page, since=since, until=until)[0], max(told))

    def test_none_without_a_run(self):
        watch, journal = (('p', 'q'),), ((False, False),)
        self.assertIsNone(touches(EXAMPLE, watch, journal, 'p'))
        self.assertIsNone(fewest(EXAMPLE, watch, journal, 'p'))
        self.assertIsNone(most(EXAMPLE, watch, journal, 'p'))
        self.assertIsNone(age(EXAMPLE, watch, journal, 'p'))
        self.assertIsNone(slow(EXAMPLE, watch, journal, (('p',),)))
        self.assertEqual(warmest(EXAMPLE, watch, journal), ())
        self.assertEqual(warmer(EXAMPLE, watch, journal, 'p', 'q')[0], 'surely')
        self.assertIsNone(touches(LINE, ((),), ((),) * 4, 'p', since=5))

    def test_a_page_that_no_step_touches(self):
        self.assertEqual(touches(LINE, ((),), ((), ()), 'r'), (0, 0))
        self.assertEqual(age(LINE, ((),), ((), ()), 'r'), (2, 2))


class FewestMostTest(unittest.TestCase):

    def test_value_least_run_and_heights(self):
        for at, (machine, watch, journal) in enumerate(CASES):
            runs = runs_that_fit(machine, watch, journal)
            if not runs:
                continue
            page = machine.pages[at % len(machine.pages)]
            for named in some_ranges(at, total_ticks(machine, len(journal))):
                count = counts_from(machine, page, named.get('since', 0), named.get('until'))
                told = [(times(machine, run, page, **named), run) for run in runs]
                value, run, heights = fewest(machine, watch, journal, page, **named)
                self.assertEqual((value, run), min(told))
                self.assertTrue(heights_hold(machine, watch, journal, count, False, value, heights))
                self.assertIs(shows_fewest(machine, watch, journal, page, value, heights, **named), True)
                self.assertIs(shows_fewest(machine, watch, journal, page, value + 1, heights, **named), False)
                self.assertIs(shows_fewest(machine, watch, journal, page, value - 1, heights, **named), True)
                value, run, heights = most(machine, watch, journal, page, **named)
                self.assertEqual((-value, run), min((-many, run) for many, run in told))
                self.assertTrue(heights_hold(machine, watch, journal, count, True, value, heights))
                self.assertIs(shows_most(machine, watch, journal, page, value, heights, **named), True)
                self.assertIs(shows_most(machine, watch, journal, page, value - 1, heights, **named), False)
                self.assertIs(shows_most(machine, watch, journal, page, value + 1, heights, **named), True)

    def test_heights_of_other_ranges_and_pages_do_not_show_it(self):
        watch, journal = ((),), ((), ())
        heights = most(EXAMPLE, watch, journal, 'p', since=2)[2]
        self.assertIs(shows_most(EXAMPLE, watch, journal, 'p', 2, heights, since=2), True)
        self.assertIs(shows_most(EXAMPLE, watch, journal, 'p', 2, heights, since=3), True)
        self.assertIs(shows_most(EXAMPLE, watch, journal, 'p', 2, heights, since=1), False)
        self.assertIs(shows_most(EXAMPLE, watch, journal, 'p', 2, heights), False)
        heights = fewest(EXAMPLE, watch, journal, 'q')[2]
        self.assertIs(shows_fewest(EXAMPLE, watch, journal, 'q', 0, heights), True)
        self.assertIs(shows_fewest(EXAMPLE, watch, journal, 'p', 0, heights), True)
        self.assertIs(shows_most(EXAMPLE, watch, journal, 'q', 4, heights), False)
        self.assertIs(shows_most(EXAMPLE, watch, journal, 'q', 4, heights, until=0), True)

    def test_kinds_and_equal_calls(self):
        for call in (fewest, most):
            told = call(MIXED, (('q',), (), ('p', 's')), ((False,), (), (True, False)), 'q', since=1, until=5)
            value, run, heights = told
            self.assertEqual(
                [type(told), type(value), type(run), type(heights), type(heights[0]), type(heights[0][1])],
                [tuple, int, tuple, tuple, tuple, tuple])
            self.assertEqual(told, call(
                machine=MIXED, watch=(('q',), (), ('p', 's')), journal=((False,), (), (True, False)), page='q', since=1,
                until=5))


class WarmerTest(unittest.TestCase):

    def test_against_all_runs_that_fit(self):
        counted = {'surely': 0, 'not': 0}
        for at, (machine, watch, journal) in enumerate(CASES):
            runs = runs_that_fit(machine, watch, journal)
            for one, other in product(machine.pages, repeat=2):
                for named in some_ranges(at, total_ticks(machine, len(journal)))[:2]:
                    against = [run for run in runs
                               if times(machine, run, other, **named) > times(machine, run, one, **named)]
                    found = warmer(machine, watch, journal, one, other, **named)
                    counted[found[0]] += 1
                    self.assertEqual(type(found), tuple)
                    self.assertIs(shows_warmer(machine, watch, journal, one, other, found, **named), True)
                    if against:
                        self.assertEqual(found, ('not', against[0]))
                        continue
                    self.assertEqual((len(found), found[0]), (2, 'surely'))
                    more = counts_from(machine, other, named.get('since', 0), named.get('until'))
                    less = counts_from(machine, one, named.get('since', 0), named.get('until'))
                    self.assertTrue(heights_hold(
                        machine, watch, journal, lambda tick, name: more(tick, name) - less(tick, name), True, 0, found[1]))
        self.assertGreater(min(counted.values()), 300)

    def test_a_page_is_as_warm_as_itself(self):
        for machine, watch, journal in CASES[::20]:
            for page in machine.pages:
                self.assertEqual(warmer(machine, watch, journal, page, page)[0], 'surely')

    def test_just_those_runs_show_that_it_is_not(self):
        for at, (machine, watch, journal) in enumerate(CASES[::6]):
            all_runs = list(machine.runs(total_ticks(machine, len(journal))))
            one, other = (machine.pages + machine.pages)[at % 2:at % 2 + 2]
            for named in some_ranges(at, total_ticks(machine, len(journal)))[:2]:
                fitting = runs_that_fit(machine, watch, journal)
                for run in all_runs[::max(1, len(all_runs) // 25)] + fitting[:25]:
                    wanted = run in fitting and (
                        times(machine, run, other, **named) > times(machine, run, one, **named))
                    self.assertIs(
                        shows_warmer(machine, watch, journal, one, other, ('not', run), **named), wanted)

    def test_names_by_name(self):
        self.assertEqual(
            warmer(machine=EXAMPLE, watch=((),), journal=((),), one='q', other='p', since=0, until=1),
            ('not', ('a', 'a')))
        self.assertIs(shows_warmer(
            machine=EXAMPLE, watch=((),), journal=((),), one='q', other='p', value=('not', ('a', 'b')), since=0, until=1),
            True)


class AgeTest(unittest.TestCase):

    def test_against_all_runs_that_fit(self):
        for machine, watch, journal in CASES:
            runs = runs_that_fit(machine, watch, journal)
            for page in machine.pages:
                told = [ticks_ago(machine, run, page) for run in runs]
                self.assertEqual(age(machine, watch, journal, page), (min(told), max(told)) if runs else None)

    def test_last_tick_and_never(self):
        self.assertEqual(age(EXAMPLE, ((),), ((), ()), 'p'), (0, 1))
        self.assertEqual(age(EXAMPLE, (('q',),), ((False,), (False,)), 'q'), (4, 4))
        self.assertEqual(age(EXAMPLE, (('q',),), ((True,), (False,)), 'q'), (2, 2))
        self.assertEqual(age(machine=EXAMPLE, watch=(('q',),), journal=((True,), (True,)), page='q'), (0, 0))


class WarmestTest(unittest.TestCase):

    def test_against_all_runs_that_fit(self):
        for at, (machine, watch, journal) in enumerate(CASES):
            runs = runs_that_fit(machine, watch, journal)
            for named in some_ranges(at, total_ticks(machine, len(journal))):
                wanted = []
                for page in machine.pages:
                    warm = [run for run in runs if times(machine, run, page, **named) == max(
                        times(machine, run, other, **named) for other in machine.pages)]
                    wanted += [(page, warm[0])] if warm else []
                self.assertEqual(warmest(machine, watch, journal, **named), tuple(wanted))

    def test_where_nothing_counts_all_are_as_warm(self):
        least = ('a', 'b')
        self.assertEqual(warmest(LINE, ((),), ((), ()), since=9), (('p', least), ('q', least), ('r', least)))
        self.assertEqual(warmest(LINE, ((),), ((), ())), (('p', least), ('q', least)))
        self.assertEqual(warmest(machine=LINE, watch=((),), journal=((), ()), since=1, until=2), (('q', least),))

    def test_journals_of_twelve_ticks(self):
        for machine, watch in ((EXAMPLE, (('q',),)), (FREE, ((), ('a', 'c'))), (DEAR, (('a',),))):
            turns = [k for k in range(1, 9) if total_ticks(machine, k) <= 12][-1]
            told = list(runs_by_journal(machine, watch, turns).items())
            for journal, runs in told[::max(1, len(told) // 20)]:
                wanted = []
                for page in machine.pages:
                    warm = [run for run in runs if times(machine, run, page) == max(
                        times(machine, run, other) for other in machine.pages)]
                    wanted += [(page, warm[0])] if warm else []
                self.assertEqual(warmest(machine, watch, journal), tuple(wanted))


class SlowTest(unittest.TestCase):

    def test_against_all_runs_that_fit(self):
        for at, (machine, watch, journal) in enumerate(CASES):
            runs = runs_that_fit(machine, watch, journal)
            for k in range(3):
                sets = tuple(machine.sets[(at * (turn + 2) + k * (turn + 1)) % len(machine.sets)]
                             for turn in range(len(journal)))
                told = []
                for run in runs:
                    left, many = list(run), 0
                    for turn, chosen in enumerate(sets):
                        many += slow_in(machine, left[:ticks_in(machine, turn)], chosen)
                        left = left[ticks_in(machine, turn):]
                    told.append(many)
                self.assertEqual(slow(machine, watch, journal, sets), (min(told), max(told)) if runs else None)

    def test_the_first_one_is_any_set(self):
        watch, journal = (('p', 'q'),), ((True, True), (True, False))
        self.assertEqual(slow(EXAMPLE, watch, journal, (('q',), ('p',))), (1, 1))
        self.assertEqual(slow(EXAMPLE, watch, journal, (('q',), ('q',))), (3, 3))
        self.assertEqual(slow(machine=EXAMPLE, watch=watch, journal=journal, sets=(('p',), ('p',))), (1, 1))


class SurelyTest(unittest.TestCase):
    """What is told is just what holds in all runs that fit; a coarser watch tells no more."""

    def test_a_coarser_watch_tells_no_more(self):
        for machine, fine, coarse in (
                (MIXED, (MIXED.pages,) * 3, (('q',), (), ('p', 's'))), (FREE, (('a',), ('b', 'c')), ((), ('b',))),
                (ENDING, (('p', 'q'), ('q',)), (('q',), ()))):
            for run in machine.runs(6):
                journal, less = seen(machine, fine, run), seen(machine, coarse, run)
                for page in machine.pages:
                    many, more = touches(machine, fine, journal, page), touches(machine, coarse, less, page)
                    self.assertLessEqual(more[0], many[0])
                    self.assertLessEqual(many[1], more[1])
                    ago, back = age(machine, fine, journal, page), age(machine, coarse, less, page)
                    self.assertLessEqual(back[0], ago[0])
                    self.assertLessEqual(ago[1], back[1])
                    if warmer(machine, coarse, less, machine.pages[0], page)[0] == 'surely':
                        self.assertEqual(warmer(machine, fine, journal, machine.pages[0], page)[0], 'surely')

    def test_each_run_lies_within_what_is_told_of_its_marks(self):
        for machine, watch in ((MIXED, ((), ('p', 'q'), ())), (FREE, ((), ('a', 'c')))):
            for run in machine.runs(total_ticks(machine, 4)):
                journal = marks_by_tick(machine, watch, run)[0]
                for page in {page_of(machine, name) for name in run[-2:]} - {None}:
                    least, greatest = touches(machine, watch, journal, page)
                    self.assertTrue(least <= times(machine, run, page) <= greatest)


if __name__ == '__main__':
    unittest.main()
