"""The errors of sections 6 to 9: the very value, the one listed first; what was passed stays as it was."""

import copy
import unittest

from samples import ANY_VALUES, EXAMPLE, FREE, MIXED
from seldomseen import fitting, warmth
from seldomseen.errors import BadJournal, BadRange, BadRun, BadSets, BadTick, BadWatch, NoPage
from seldomseen.warmth import slow, touches

WATCH, JOURNAL = (('p', 'q'),), ((True, True), (True, False))

BAD = {
    'watch': (BadWatch, (
        (), ('p', 'q'), [('p', 'q')], (['p', 'q'],), (('q', 'p'),), (('p', 'p'),), (('p', 'r'),), (('p',), ('q',)),
        ((), ()), (('a',),), ((None,),), ((True,),), None, True, 0, 'p', {}, {0: ('p', 'q')})),
    'journal': (BadJournal, (
        (), ((True,),), ((True, True, True),), ((True, True), ()), ((True, True), (True,)), [(True, True), (True, False)],
        ([True, True], (True, False)), ((True, True), [True, False]), ((True, 1), (True, False)), ((1, 1), (1, 0)),
        ((True, 0), (True, False)), ((True, None), (True, False)), ((True, 'p'), (True, False)), ((True, True), None),
        ((True, True), 'pq'), ((True, True), {0: True, 1: False}), ((True, (True,)), (True, False)),
        ((True, [True]), (True, False)), ((True, True),) * 9, (True, True), None, True, 2, '++', {})),
    'run': (BadRun, ((), ('b',), ('a', 'b', 'b'), ('a', 'c'), ['a', 'b'], ('a', ['b']), ('a', {}), 'ab', None, True, 0, {})),
    'tick': (BadTick, (4, 5, -1, 10 ** 17, -10 ** 17, True, False, None, '0', 'a', (0,), [0], {}, ())),
    'page': (NoPage, ('r', 'a', 'b', '', 'P', 'pq', None, True, False, 0, ('p',), ['p'], {'p': 1}, ())),
    'since': (BadRange, (-1, -10 ** 17, True, False, None, '0', (0,), [0], {}, ())),
    'until': (BadRange, (-1, 0, 1, True, False, '3', (3,), [3], {}, ())),
    'sets': (BadSets, (
        (), (('p',),), (('p',), ('p',), ('p',)), [('p',), ('q',)], (['p'], ('q',)), (('p',), ['q']), (('p',), ()),
        (('p',), ('p', 'q')), (('p',), ('r',)), (('p',), None), (('p',), 'q'), ('p', 'q'), (('p',), ({},)),
        (('p',), (True,)), None, True, 0, 'pq', {}, {('p',): ('q',)})),
}
BAD['one'] = BAD['other'] = BAD['page']

GOOD = {
    'machine': EXAMPLE, 'watch': WATCH, 'journal': JOURNAL, 'run': ('a', 'b', 'a', 'a'), 'tick': 3, 'page': 'p',
    'one': 'p', 'other': 'q', 'value': 1, 'heights': (), 'since': 2, 'until': 4, 'sets': (('q',), ('p',))}

# In the order in which the errors are listed: watch and journal go ahead of all others.
RANGE = ['since', 'until']
CALLS = [
    (fitting.fits, ['watch', 'journal', 'run']), (fitting.fitting, ['watch', 'journal']),
    (fitting.how_many, ['watch', 'journal']), (fitting.where, ['watch', 'journal', 'tick']),
    (fitting.stuck, ['watch', 'journal']), (fitting.shows_stuck, ['watch', 'journal', 'value']),
    (warmth.touches, ['watch', 'journal', 'page'] + RANGE), (warmth.fewest, ['watch', 'journal', 'page'] + RANGE),
    (warmth.most, ['watch', 'journal', 'page'] + RANGE),
    (warmth.shows_fewest, ['watch', 'journal', 'page'] + RANGE + ['value', 'heights']),
    (warmth.shows_most, ['watch', 'journal', 'page'] + RANGE + ['value', 'heights']),
    (warmth.warmer, ['watch', 'journal', 'one', 'other'] + RANGE),
    (warmth.shows_warmer, ['watch', 'journal', 'one', 'other'] + RANGE + ['value']),
    (warmth.age, ['watch', 'journal', 'page']), (warmth.warmest, ['watch', 'journal'] + RANGE),
    (warmth.slow, ['watch', 'journal', 'sets'])]


class WrongTest(unittest.TestCase):

    def raised(self, call, error, value, passed):
        before = copy.deepcopy({key: part for key, part in passed.items() if key != 'machine'})
        with self.assertRaises(error) as caught:
            call(**passed)
        self.assertIs(type(caught.exception), error)
        self.assertIs(caught.exception.value, value)
        self.assertEqual({key: part for key, part in passed.items() if key != 'machine'}, before)
        self.assertEqual(repr([part for key, part in passed.items() if key != 'machine']), repr(list(before.values())))

    def good(self, names):
        return {name: GOOD[name] for name in ['machine'] + names}

    def test_all_that_is_good_raises_nothing(self):
        for call, names in CALLS:
            self.assertEqual(call(**self.good(names)), call(**self.good(names)))

    def test_each_error_alone(self):
        for call, names in CALLS:
            for name in names:
                if name in BAD:
                    error, values = BAD[name]
                    for value in values:
                        with self.subTest(call=call.__name__, name=name, value=repr(value)):
                            self.raised(call, error, value, {**self.good(names), name: value})

    def test_several_at_once_raise_the_first_one(self):
        for call, names in CALLS:
            wrong = [name for name in names if name in BAD]
            for at, name in enumerate(wrong):
                error, values = BAD[name]
                for value in values[:5]:
                    for others in [wrong[at + 1:]] + [[other] for other in wrong[at + 1:]]:
                        passed = {**self.good(names), name: value, **{other: BAD[other][1][-1] for other in others}}
                        self.raised(call, error, value, passed)

    def test_any_value(self):
        good = {'watch': (((),),), 'journal': (), 'run': (('a',),), 'tick': (0, 1, 2), 'page': ('p',), 'one': ('p',),
                'other': ('p',), 'since': (0, 1, 2, 10, 24, 25, 10 ** 17), 'until': (None, 2, 10, 24, 25, 10 ** 17), 'sets': ()}
        for call, names in CALLS:
            for name in names:
                for value in ANY_VALUES if name in BAD else ():
                    if not any(value == other and type(value) is type(other) for other in good[name]):
                        self.raised(call, BAD[name][0], value, {**self.good(names), name: value})

    def test_what_is_shown_by_no_value_raises_nothing(self):
        for call, names in CALLS:
            for name in names:
                if name in ('value', 'heights'):
                    for value in ANY_VALUES:
                        before = copy.deepcopy(value)
                        self.assertIs(call(**{**self.good(names), name: value}), False)
                        self.assertEqual(value, before)


class EdgesTest(unittest.TestCase):

    def test_since_and_until(self):
        for since, until in ((0, 0), (4, 4), (5, 5), (4, None), (10 ** 17, 10 ** 17), (10 ** 17, None), (3, 10 ** 17)):
            self.assertEqual(touches(EXAMPLE, WATCH, JOURNAL, 'q', since=since, until=until), (0, 0))
        for since, until in ((1, 0), (5, 4), (10 ** 17, 10 ** 17 - 1)):
            with self.assertRaises(BadRange) as caught:
                touches(EXAMPLE, WATCH, JOURNAL, 'q', since=since, until=until)
            self.assertEqual(caught.exception.value, until)
        with self.assertRaises(BadRange) as caught:
            touches(EXAMPLE, WATCH, JOURNAL, 'q', since=-1, until=-2)
        self.assertEqual(caught.exception.value, -1)

    def test_since_and_until_by_name_alone(self):
        for call, names in CALLS:
            if 'since' in names:
                values = {'page': ['p'], 'one': ['p'], 'other': ['q'], 'value': [1], 'heights': [()]}
                given = [value for name in names for value in values.get(name, ())]
                with self.assertRaises(TypeError):
                    call(EXAMPLE, WATCH, JOURNAL, *given, 0, 1)

    def test_journals_of_a_turn_and_of_eight(self):
        for turns in range(1, 9):
            journal = ((True, False),) * turns
            self.assertEqual(fitting.how_many(EXAMPLE, WATCH, journal), 1)
        for journal in ((), ((True, False),) * 9):
            with self.assertRaises(BadJournal) as caught:
                fitting.how_many(EXAMPLE, WATCH, journal)
            self.assertIs(caught.exception.value, journal)

    def test_journals_by_their_places(self):
        watch = (('q',), (), ('p', 's'))
        good = ((True,), (), (True, False), (False,), ())
        self.assertEqual(fitting.how_many(MIXED, watch, good), 0)
        for journal in (
                (), good[1:], ((), (), (True, False)), ((True,), (True,), (True, False)), ((True,), (), (True,)),
                ((True,), (), ()), ((True,), (), (True, False), ()), ((True,), (), (True, False), (False,), (False,))):
            with self.assertRaises(BadJournal) as caught:
                fitting.how_many(MIXED, watch, journal)
            self.assertIs(caught.exception.value, journal)

    def test_pages_that_no_step_touches_are_pages(self):
        self.assertEqual(touches(MIXED, ((), (), ()), ((),), 'r'), (0, 0))
        with self.assertRaises(NoPage):
            touches(FREE, ((), ()), ((),), 'p')

    def test_sets_of_slow(self):
        self.assertEqual(slow(MIXED, ((), (), ()), ((),), (('q', 's'),)), (1, 1))
        for sets in ((('s', 'q'),), (('q',),), (('p', 'q', 'r'),), (('q', 'q'),), (('q', 't'),), ('q', 's')):
            with self.assertRaises(BadSets) as caught:
                slow(MIXED, ((), (), ()), ((),), sets)
            self.assertIs(caught.exception.value, sets)

    def test_ticks_of_where(self):
        for tick in range(6):
            self.assertIn('go', fitting.where(MIXED, ((), (), ()), ((), (), ()), tick))
        for tick in (-1, 6, 7):
            with self.assertRaises(BadTick) as caught:
                fitting.where(MIXED, ((), (), ()), ((), (), ()), tick)
            self.assertEqual(caught.exception.value, tick)


if __name__ == '__main__':
    unittest.main()
