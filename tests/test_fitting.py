import copy
import random
import unittest

from oracle import (
    ENDING, LINE, WATCHED, cases, journals_of, layers_hold, marks_by_tick, runs_by_journal, runs_that_fit, states_of,
    total_ticks, ways_on_with)
from samples import ANY_VALUES, EXAMPLE, MIXED
from seldomseen.fitting import fits, fitting, how_many, shows_stuck, stuck, where
from seldomseen.machines import Machine
from seldomseen.watches import seen

CASES = list(cases(7, 16))


class ExampleTest(unittest.TestCase):

    def test_example_of_section_7(self):
        machine = Machine((('a', 'p', ('a', 'b')), ('b', 'q', ('a',))), (2,), ('p', 'q'), 1, ('p',))
        self.assertEqual(stuck(machine, (('p', 'q'),), ((False, False),)), (1, ()))

    def test_example_of_section_8(self):
        watch, journal = (('p',),), ((True,), (True,))
        self.assertEqual(
            [how_many(EXAMPLE, watch, journal), where(EXAMPLE, watch, journal, 3)], [5, ('a', 'b')])


class FitsTest(unittest.TestCase):

    def test_all_runs_of_so_many_turns(self):
        for machine, watch, journal in CASES:
            wanted = runs_that_fit(machine, watch, journal)
            runs = list(machine.runs(total_ticks(machine, len(journal))))
            for run in runs[::max(1, len(runs) // 40)] + wanted[:20]:
                self.assertIs(fits(machine, watch, journal, run), run in wanted)

    def test_each_run_fits_what_it_shows(self):
        for machine, watches in WATCHED:
            for watch in watches:
                for turns in (1, 2, 3):
                    for run in machine.runs(total_ticks(machine, turns)):
                        self.assertIs(fits(machine, watch, marks_by_tick(machine, watch, run)[0], run), True)

    def test_runs_of_other_lengths(self):
        watch, journal = ((),), ((), ())
        for length in range(1, 8):
            for run in EXAMPLE.runs(length):
                self.assertIs(fits(EXAMPLE, watch, journal, run), length == 4)
        # The first turns have the marks, but there are others behind them, or the last one is cut short.
        self.assertIs(fits(EXAMPLE, (('p',),), ((True,),), ('a', 'a', 'a')), False)
        self.assertIs(fits(EXAMPLE, (('p',),), ((True,),), ('a', 'a', 'a', 'a')), False)
        self.assertIs(fits(EXAMPLE, (('p',),), ((True,), (True,)), ('a', 'a', 'a')), False)
        self.assertIs(fits(EXAMPLE, (('p',),), ((True,), (True,)), ('a', 'b') * 500), False)

    def test_names_by_name(self):
        self.assertIs(fits(run=('a', 'a'), journal=((True,),), watch=(('p',),), machine=EXAMPLE), True)


class FittingTest(unittest.TestCase):

    def test_least_run_and_number(self):
        for machine, watch, journal in CASES:
            wanted = runs_that_fit(machine, watch, journal)
            self.assertEqual(fitting(machine, watch, journal), wanted[0] if wanted else None)
            self.assertEqual(how_many(machine, watch, journal), len(wanted))
            self.assertEqual(fitting(machine=machine, watch=watch, journal=journal), fitting(machine, watch, journal))
            self.assertEqual(how_many(machine=machine, watch=watch, journal=journal), len(wanted))

    def test_all_journals_together_have_all_runs(self):
        for machine, watches in WATCHED:
            for watch in watches:
                if total_ticks(machine, 2) * len(watch[0]) <= 16:
                    found = sum(how_many(machine, watch, journal) for journal in journals_of(watch, 2))
                    self.assertEqual(found, len(list(machine.runs(total_ticks(machine, 2)))))

    def test_least_by_names_not_by_the_order_of_steps(self):
        machine = Machine((('z', None, ('a', 'z')), ('a', 'p', ('z',))), (1,), ('p', 'q'), 0, ('p',))
        self.assertEqual(fitting(machine, ((),), ((), (), ())), ('z', 'a', 'z'))
        self.assertEqual(fitting(machine, (('p',),), ((False,), (False,), (True,))), ('z', 'z', 'a'))

    def test_the_least_first_steps_may_lead_nowhere(self):
        # Behind a nothing follows, and so the least run takes b, though a comes ahead of it.
        machine = Machine(
            (('s', None, ('a', 'b')), ('a', 'p', ()), ('b', 'p', ('a', 'b'))), (1,), ('p', 'q'), 0, ('p',))
        self.assertEqual(fitting(machine, (('p',),), ((False,), (True,), (True,))), ('s', 'b', 'a'))
        self.assertEqual(where(machine, (('p',),), ((False,), (True,), (True,)), 1), ('b',))

    def test_machines_that_come_to_an_end(self):
        self.assertEqual(fitting(LINE, ((),), ((), (), ())), ('a', 'b', 'c'))
        self.assertEqual(how_many(LINE, ((),), ((), (), ())), 1)
        self.assertIsNone(fitting(LINE, ((),), ((),) * 4))
        self.assertEqual(how_many(LINE, ((),), ((),) * 4), 0)
        self.assertEqual(where(LINE, ((),), ((),) * 4, 0), ())
        self.assertEqual(how_many(ENDING, ((), ()), ((), ())), 3)
        self.assertEqual(fitting(ENDING, ((), ()), ((), ())), ('m', 'b', 'z'))


class WhereTest(unittest.TestCase):

    def test_each_tick(self):
        for machine, watch, journal in CASES:
            runs = runs_that_fit(machine, watch, journal)
            for tick in range(total_ticks(machine, len(journal))):
                found = where(machine, watch, journal, tick)
                self.assertEqual(found, tuple(sorted({run[tick] for run in runs})))
        self.assertEqual(where(machine=EXAMPLE, watch=((),), journal=((),), tick=1), ('a', 'b'))


class StuckTest(unittest.TestCase):

    def test_least_k_and_layers_that_hold(self):
        many = 0
        for machine, watch, journal in CASES:
            found = stuck(machine, watch, journal)
            self.assertEqual(found, stuck(machine=machine, watch=watch, journal=journal))
            if runs_that_fit(machine, watch, journal):
                self.assertIsNone(found)
                continue
            least = min(k for k in range(1, len(journal) + 1) if not runs_that_fit(machine, watch, journal[:k]))
            self.assertEqual(found[0], least)
            self.assertEqual([type(found), type(found[0]), type(found[1])], [tuple, int, tuple])
            self.assertTrue(layers_hold(machine, watch, journal, found))
            self.assertIs(shows_stuck(machine, watch, journal, found), True)
            self.assertIs(shows_stuck(machine=machine, watch=watch, journal=journal, value=found), True)
            many += least > 1
        self.assertGreater(many, 100)

    def test_nothing_shows_that_a_run_does_not_fit_that_does(self):
        for machine, watch, journal in CASES[::5]:
            if runs_that_fit(machine, watch, journal):
                for k in range(1, len(journal) + 1):
                    for layer in ((), tuple(states_of(machine))):
                        self.assertIs(shows_stuck(machine, watch, journal, (k, (layer,) * (k - 1))), False)


# The second turn would touch q alone, but p comes ahead of each q and behind it.
WATCH, JOURNAL = (('p', 'q'),), ((True, True), (False, True), (True, False))


class ShowsStuckTest(unittest.TestCase):

    def test_what_was_told_with_something_otherwise(self):
        self.assertEqual(stuck(EXAMPLE, WATCH, JOURNAL), (2, ((('b', ()),),)))
        for value in (
                (2, ((('b', ()),),)), (2, ((('b', ()), ('b', ('p',))),)), (2, ((('a', ('p',)), ('b', ()),),)),
                (3, ((('b', ()),), ())), (3, ((('b', ()),), (('a', ('q',)), ('b', ('p', 'q')))))):
            self.assertTrue(layers_hold(EXAMPLE, WATCH, JOURNAL, value), value)
            self.assertIs(shows_stuck(EXAMPLE, WATCH, JOURNAL, value), True, value)
        otherwise = (
            (2, ()), (2, ((),)), (1, ()), (3, ((('b', ()),),)), (2, ((('b', ()),), ())), (0, ()), (-1, ()), (4, ((),) * 3),
            (4, ((('b', ()),), (), ())), (True, ()), (False, ()), (2, ((('a', ()),),)), (2, ((('b', ('p',)),),)),
            (2, ((('b', ('q',)),),)), (2, ((('b', ()), ('b', ())),)), (2, ((('b', ('p',)), ('b', ())),)),
            (2, ((('b', ()), ('a', ())),)), (2, [(('b', ()),)]), [2, ((('b', ()),),)], (2, ([('b', ())],)),
            (2, ((['b', ()],),)), (2, ((('b', []),),)), (2, ((('b',),),)), (2, ((('b', (), ()),),)),
            (2, ((('b', ()), ('c', ())),)), (2, ((('b', ()), ('b', ('q', 'p'))),)), (2, ((('b', ()), ('b', ('r',))),)),
            (2, ((('b', ()), ('b', ('p', 'p'))),)), (2, ((('b', ()), (None, ())),)), (2, (((None, ()), ('b', ())),)),
            (2, ((('b', ()), None),)), (2, ((('b', ()), ()),)), (2, ((('b', None),),)), (2, (('b', ()),)), (2, ((('b', ()),),), ()),
            ('2', ((('b', ()),),)), (None, ((('b', ()),),)), ((2,), ((('b', ()),),)), (2,), (2, None), (2, 'a'), (2, {}),
            (2, ((('b', ()),), None)), (2, (None,)), (2, ('b',)), (3, ((), ())), (3, ((('b', ()),), None)),
            (3, ((('b', ()), ('b', ()),), ())), (3, ((('b', ()),), (('b', ()), ('b', ())))),
            # From these the last turn has its marks.
            (3, ((('b', ()),), (('a', ()),))), (3, ((('b', ()),), (('b', ('p',)),))))
        for value in otherwise:
            before = copy.deepcopy(value)
            self.assertFalse(layers_hold(EXAMPLE, WATCH, JOURNAL, value), value)
            self.assertIs(shows_stuck(EXAMPLE, WATCH, JOURNAL, value), False, value)
            self.assertEqual(value, before)

    def test_any_value(self):
        for value in ANY_VALUES:
            self.assertIs(shows_stuck(EXAMPLE, WATCH, JOURNAL, value), False)
            self.assertIs(shows_stuck(EXAMPLE, WATCH, JOURNAL, (value, ((('b', ()),),))), value == 2 and value is not True)
            self.assertIs(shows_stuck(EXAMPLE, WATCH, JOURNAL, (2, value)), False)
            self.assertIs(shows_stuck(EXAMPLE, WATCH, JOURNAL, (2, (value,))), False)
            self.assertIs(shows_stuck(EXAMPLE, WATCH, JOURNAL, (2, ((('b', ()), value),))), False)
            self.assertIs(
                shows_stuck(EXAMPLE, WATCH, JOURNAL, (2, ((('b', ()), ('b', value)),))), value == ('p',))

    def test_k_of_true_is_no_integer(self):
        watch, journal = (('p', 'q'),), ((False, False),)
        self.assertIs(shows_stuck(EXAMPLE, watch, journal, (1, ())), True)
        self.assertIs(shows_stuck(EXAMPLE, watch, journal, (True, ())), False)
        self.assertIs(shows_stuck(EXAMPLE, watch, journal, (1, [])), False)

    def test_further_states_that_keep_the_form_and_states_less(self):
        chance = random.Random(7)
        counted = {True: 0, False: 0}
        for machine, watch, journal in CASES:
            if runs_that_fit(machine, watch, journal):
                continue
            states = states_of(machine)
            k, layers = stuck(machine, watch, journal)
            for _ in range(4):
                changed = [set(layer) for layer in layers]
                for layer in changed:
                    if chance.random() < 0.6:
                        layer.add(chance.choice(states))
                    if layer and chance.random() < 0.2:
                        layer.discard(chance.choice(sorted(layer)))
                value = (k, tuple(tuple(sorted(layer)) for layer in changed))
                wanted = layers_hold(machine, watch, journal, value)
                counted[wanted] += 1
                self.assertIs(shows_stuck(machine, watch, journal, value), wanted, value)
        self.assertGreater(min(counted.values()), 100)

    def test_other_k_with_all_that_comes(self):
        # All that may come behind the turns ahead, from all states; it holds where the last turn cannot be.
        for machine, watch, journal in CASES[::3]:
            ahead, layers = [(None, ())], ()
            for k in range(1, len(journal) + 1):
                behind = sorted({after for state in ahead
                                 for _, after in ways_on_with(machine, watch, journal, k - 1, state)})
                self.assertIs(shows_stuck(machine, watch, journal, (k, layers)), not behind)
                ahead, layers = behind, layers + (tuple(behind),)

    def test_out_of_order(self):
        many = 0
        for machine, watch, journal in CASES:
            found = stuck(machine, watch, journal)
            if found is None:
                continue
            for at, layer in enumerate(found[1]):
                if len(layer) > 1:
                    layers = found[1][:at] + (layer[::-1],) + found[1][at + 1:]
                    self.assertIs(shows_stuck(machine, watch, journal, (found[0], layers)), False)
                    many += 1
        self.assertGreater(many, 5)


class FinerTest(unittest.TestCase):

    def test_a_coarser_watch_tells_no_more(self):
        # What fits by the finer watch fits by the coarser one too.
        fine = (MIXED.pages,) * 3
        for coarse in (((), (), ()), (('q',), (), ('p', 's')), ((), (), ('q', 'r'))):
            for journal, runs in runs_by_journal(MIXED, fine, 3).items():
                less = seen(MIXED, coarse, runs[0])
                self.assertLessEqual(how_many(MIXED, fine, journal), how_many(MIXED, coarse, less))
                for tick in (0, 2, 5):
                    self.assertLessEqual(
                        set(where(MIXED, fine, journal, tick)), set(where(MIXED, coarse, less, tick)))


if __name__ == '__main__':
    unittest.main()
