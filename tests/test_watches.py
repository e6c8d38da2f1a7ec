import copy
import unittest
from itertools import product

from oracle import ENDING, LINE, WATCHED, marks_by_tick
from samples import ANY_VALUES, CHEAP, EXAMPLE, FREE, MIXED
from seldomseen.errors import BadRun, BadWatch
from seldomseen.machines import Machine
from seldomseen.watches import coarser, is_watch, seen, unseen


def parts_of(pages):
    parts = [()]
    for page in pages:
        parts += [part + (page,) for part in parts]
    return parts


def all_watches(machine):
    return list(product(parts_of(machine.pages), repeat=len(machine.clock)))


class ExampleTest(unittest.TestCase):

    def test_example_of_section_6(self):
        machine = Machine((('a', 'p', ('a', 'b')), ('b', 'q', ('a',))), (2,), ('p', 'q'), 1, ('p',))
        run, both = ('a', 'b', 'a', 'a'), (('p', 'q'),)
        self.assertEqual(
            [seen(machine, both, run), unseen(machine, (('q',),), run[:3]), coarser(machine, (('q',),), both)],
            [((True, True), (True, False)), ('p',), True])


class IsWatchTest(unittest.TestCase):

    def test_all_watches(self):
        for machine in (EXAMPLE, FREE, CHEAP, ENDING, LINE):
            for watch in all_watches(machine):
                self.assertIs(is_watch(machine, watch), True)
        self.assertIs(is_watch(machine=MIXED, value=((), ('p', 'q', 'r', 's'), ('s',))), True)

    def test_what_is_nearly_one(self):
        nearly = (
            (), ((),), (('p',), ('q',)), ((), (), (), ()), [(), (), ()], ((), [], ()), ((), (), ['p']),
            ((), ('q', 'p'), ()), ((), ('p', 'p'), ()), (('p', 'q', 'q'), (), ()), ((), ('t',), ()), ((), ('p', 't'), ()),
            ((), (), ('go',)), ((), (), (None,)), ((), (), None), ((), (), 'p'), ('p', 'q', 'r'), ((), (), (('p',),)),
            ((), (), (['p'],)), ((), (), ({},)), ((), (), {'p': 1}), ((), (), (True,)), ((), (), (1,)), ((), (), True),
            ((), (), ('P',)), ((), (), ('',)), ((), (), ('p', None)), ((), (), (None, 'p')), ((), (), ('p', 1)), '   ',
            {0: (), 1: (), 2: ()}, None, True, 3)
        for value in nearly:
            before = copy.deepcopy(value)
            self.assertIs(is_watch(MIXED, value), False, repr(value))
            self.assertEqual(value, before)

    def test_pages_of_the_machine_alone(self):
        self.assertTrue(is_watch(LINE, (('r',),)))
        self.assertFalse(is_watch(EXAMPLE, (('r',),)))
        self.assertFalse(is_watch(EXAMPLE, ((), ())))

    def test_any_value(self):
        for value in ANY_VALUES:
            self.assertIs(is_watch(EXAMPLE, value), value == ((),), repr(value)[:60])
            self.assertIs(is_watch(EXAMPLE, (value,)), value in ((), ('p',)), repr(value)[:60])
            self.assertIs(is_watch(EXAMPLE, ((value,),)), value == 'p', repr(value)[:60])
            self.assertIs(is_watch(MIXED, (value, (), ())), value in ((), ('p',)), repr(value)[:60])


class SeenTest(unittest.TestCase):

    def test_against_a_count_tick_by_tick(self):
        for machine, watches in WATCHED:
            for watch in watches:
                for length in range(1, 8):
                    for run in machine.runs(length):
                        marks, pages = marks_by_tick(machine, watch, run)
                        self.assertEqual(seen(machine, watch, run), marks)
                        self.assertEqual(unseen(machine, watch, run), pages)

    def test_a_page_that_is_seen_at_one_place_only(self):
        # Turns of 2 ticks and of 1; c is seen behind the latter alone, so its mark stays in between.
        watch = ((), ('c',))
        run = ('x', 'z', 'x', 'z', 'y', 'x')
        self.assertEqual(FREE.clock, (1, 2))
        self.assertEqual(seen(FREE, watch, run), ((), (True,), (), (True,)))
        self.assertEqual(seen(FREE, watch, run[:3] + ('y', 'x', 'y')), ((), (True,), (), (False,)))
        self.assertEqual(unseen(FREE, watch, run), ('a', 'b'))
        self.assertEqual(unseen(FREE, watch, run[:2]), ('a', 'c'))
        self.assertEqual(seen(FREE, (('c',), ()), run), ((False,), (), (True,), ()))
        self.assertEqual(unseen(FREE, (('c',), ()), run[:4]), ('a',))

    def test_what_is_not_seen_stays(self):
        run = ('go',) + ('rest', 'go', 'rest') + ('go', 'rest') + ('go', 'go', 'end')
        self.assertEqual(seen(MIXED, ((), (), ('p', 's')), run), ((), (), (True, False), ()))
        self.assertEqual(unseen(MIXED, ((), (), ('p', 's')), run), ('p', 's'))
        self.assertEqual(unseen(MIXED, ((), (), ('p', 's')), run[:6]), ())
        self.assertEqual(unseen(MIXED, ((), (), ('q', 's')), run[:6]), ('p',))

    def test_runs_cut_amid_a_turn(self):
        self.assertEqual(seen(EXAMPLE, (('p', 'q'),), ('a',)), ())
        self.assertEqual(unseen(EXAMPLE, (('p', 'q'),), ('a',)), ('p',))
        self.assertEqual(seen(EXAMPLE, (('p', 'q'),), ('a', 'b', 'a')), ((True, True),))
        self.assertEqual(unseen(EXAMPLE, (('p', 'q'),), ('a', 'b', 'a')), ('p',))
        self.assertEqual(unseen(EXAMPLE, (('p', 'q'),), ('a', 'b')), ())
        self.assertEqual(unseen(EXAMPLE, ((),), ('a', 'b')), ('p', 'q'))

    def test_a_watch_that_sees_nothing_sees_it_each_turn(self):
        self.assertEqual(seen(EXAMPLE, ((),), ('a', 'b', 'a', 'a', 'a')), ((), ()))

    def test_names_kinds_and_equal_calls(self):
        run, watch = ('a', 'b', 'a'), (('p', 'q'),)
        told = seen(machine=EXAMPLE, watch=watch, run=run)
        self.assertEqual(told, seen(EXAMPLE, watch, run))
        self.assertEqual([type(told), type(told[0]), type(told[0][0])], [tuple, tuple, bool])
        self.assertEqual(unseen(machine=EXAMPLE, watch=watch, run=run), unseen(EXAMPLE, watch, run))
        self.assertEqual(type(unseen(EXAMPLE, watch, run)), tuple)

    def test_long_runs(self):
        run = ('a', 'b') * 2000
        self.assertEqual(seen(EXAMPLE, (('q',),), run), ((True,),) * 2000)
        self.assertEqual(unseen(EXAMPLE, (('q',),), run), ('p',))


class CoarserTest(unittest.TestCase):

    def test_all_pairs(self):
        for machine in (EXAMPLE, ENDING, LINE):
            watches = all_watches(machine)
            for one, other in product(watches, repeat=2):
                wanted = all(set(fewer) <= set(more) for fewer, more in zip(one, other))
                self.assertIs(coarser(machine, one, other), wanted)

    def test_itself_nothing_and_all(self):
        for machine, watches in WATCHED:
            nothing = ((),) * len(machine.clock)
            everything = (machine.pages,) * len(machine.clock)
            for watch in watches:
                self.assertIs(coarser(machine, watch, watch), True)
                self.assertIs(coarser(machine, nothing, watch), True)
                self.assertIs(coarser(machine, watch, everything), True)
                self.assertIs(coarser(machine, everything, watch), watch == everything)
                self.assertIs(coarser(machine, watch, nothing), watch == nothing)

    def test_place_by_place(self):
        self.assertIs(coarser(FREE, (('a',), ()), ((), ('a',))), False)
        self.assertIs(coarser(FREE, ((), ('a',)), (('a',), ())), False)
        self.assertIs(coarser(machine=FREE, one=(('a',), ()), other=(('a', 'b'), ('c',))), True)

    def test_a_coarser_watch_shows_no_more(self):
        # Runs that the finer one cannot tell apart the coarser one cannot either.
        for machine in (EXAMPLE, ENDING, LINE):
            runs = list(machine.runs(3))
            for one, other in product(all_watches(machine), repeat=2):
                if coarser(machine, one, other):
                    told = {}
                    for run in runs:
                        fine = seen(machine, other, run)
                        self.assertEqual(told.setdefault(fine, seen(machine, one, run)), seen(machine, one, run))


class WrongTest(unittest.TestCase):

    def raised(self, error, value, call, *args, **named):
        with self.assertRaises(error) as caught:
            call(*args, **named)
        self.assertIs(type(caught.exception), error)
        self.assertIs(caught.exception.value, value)

    def test_bad_watch_goes_ahead_of_bad_run(self):
        for value in ANY_VALUES:
            if value != ((),):
                for call in (seen, unseen):
                    self.raised(BadWatch, value, call, EXAMPLE, value, ('a',))
                    self.raised(BadWatch, value, call, EXAMPLE, value, 'no run')

    def test_bad_run(self):
        for value in ANY_VALUES + (('b',), ('a', 'b', 'b'), ['a', 'b'], ('a', ['b'])):
            if value != ('a',):
                for call in (seen, unseen):
                    self.raised(BadRun, value, call, EXAMPLE, (('p',),), value)

    def test_coarser_one_then_other(self):
        for value in ANY_VALUES:
            if value != ((),):
                self.raised(BadWatch, value, coarser, EXAMPLE, value, (('p',),))
                self.raised(BadWatch, value, coarser, EXAMPLE, (('p',),), value)
                self.raised(BadWatch, value, coarser, EXAMPLE, value, (('q', 'p'),))
                self.raised(BadWatch, value, coarser, other=(('q', 'p'),), one=value, machine=EXAMPLE)


if __name__ == '__main__':
    unittest.main()
