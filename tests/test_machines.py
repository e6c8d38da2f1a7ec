import copy
import unittest

from samples import ANY_VALUES, EXAMPLE, MACHINES, MIXED, STEPS, nested
from seldomseen.errors import BadClock, BadMove, BadPages, BadSet, BadSteps, NoStep
from seldomseen.machines import Machine

GOOD = {'steps': STEPS, 'clock': (2,), 'pages': ('p', 'q'), 'move': 1, 'first': ('p',)}
ERRORS = {'steps': BadSteps, 'clock': BadClock, 'pages': BadPages, 'move': BadMove, 'first': BadSet}
LETTERS = 'abcdefghi'

BAD_STEPS = (
    (),
    list(STEPS),
    ['a', 'p', ()],
    ('a', 'p', ()),
    (('a', 'p'),),
    (('a', 'p', (), ()),),
    (['a', 'p', ()],),
    (('a', 'p', []),),
    (('a', 'p', ['a']),),
    (('a', ['p'], ()),),
    ((['a'], 'p', ()),),
    ((('a',), 'p', ()),),
    (('a', 'p', 'a'),),
    (('a', 'p', None),),
    (('a', 'p', {'a': 1}),),
    (({}, 'p', ()),),
    (('', 'p', ()),),
    (('a', '', ()),),
    ((None, 'p', ()),),
    (('A', 'p', ()),),
    (('a1', 'p', ()),),
    (('a b', 'p', ()),),
    (('a\n', 'p', ()),),
    (('\u00e4', 'p', ()),),
    (('abcdefghi', 'p', ()),),
    (('a', 'abcdefghi', ()),),
    (('a', 'P', ()),),
    (('a', 1, ()),),
    (('a', True, ()),),
    (('a', False, ()),),
    ((1, 'p', ()),),
    (('a', 'p', ('b',)),),
    (('a', 'p', ('a', 'b')), ('b', 'q', ('c',))),
    (('a', 'p', ('b', 'a')), ('b', 'q', ('a',))),
    (('a', 'p', ('a', 'a')), ('b', 'q', ('a',))),
    (('a', 'p', (None,)),),
    (('a', 'p', (1,)),),
    (('a', 'p', (True,)),),
    (('a', 'p', ('a', None)),),
    (('a', 'p', (None, 'a')),),
    (('a', 'p', (['a'],)),),
    (('a', 'p', ({},)),),
    (('a', 'p', ()), ('a', 'q', ())),
    (('a', 'p', ()), ('b', 'q', ()), ('a', 'p', ())),
    tuple([(name, None, ('a', 'b', 'c', 'd')) for name in 'abcd']),
    tuple([(name, None, ()) for name in LETTERS]),
    STEPS + (None,),
    STEPS + (nested(39),),
    (('a', 'p', nested(38)),),
    (('a', nested(38, lambda value: [value]), ()),),
)

BAD_CLOCKS = (
    (), [2], (0,), (4,), (-1,), (True,), (False,), (2, True), (1, 1, 1, 1), (2, 0), (None,), ('2',), ((2,),), ([2],),
    ({},), (1, 2, 4), 2, '2', None, True, {2: 2}, nested(40), (10 ** 17,))

BAD_PAGES = (
    (), ('p',), ['p', 'q'], ('q', 'p'), ('p', 'p', 'q'), ('p', 'q', 'q'), ('p', 'r'), ('q', 'r'), ('r', 's'),
    ('p', 'q', 'r', 's', 't'), ('p', 'q', None), (None, 'p', 'q'), ('p', 'q', 'R'), ('p', 'q', 'r1'), ('', 'p', 'q'),
    ('p', 'q', 'qabcdefgh'), ('p', 'q', 1), (1, 'p', 'q'), ('p', 'q', True), ('p', 'q', ['r']), ('p', 'q', ('r',)),
    ('p', 'q', {}), 'pq', None, True, {'p': 1, 'q': 1}, nested(40))

BAD_MOVES = (-1, 10, True, False, None, '1', '', (1,), [1], {}, (), 10 ** 17, -10 ** 17, nested(40))

# With pages p, q.
BAD_FIRSTS = (
    (), ('p', 'q'), ['p'], ('r',), ('q', 'p'), ('p', 'p'), 'p', ('P',), ('',), (None,), (True,), (1,), (('p',),),
    (['p'],), ({},), None, True, 0, {'p': 1}, nested(40, value='p'))

BAD = {'steps': BAD_STEPS, 'clock': BAD_CLOCKS, 'pages': BAD_PAGES, 'move': BAD_MOVES, 'first': BAD_FIRSTS}


class ExampleTest(unittest.TestCase):

    def test_first_example_of_section_4(self):
        machine = Machine((('a', 'p', ('a', 'b')), ('b', 'q', ('a',))), (2,), ('p', 'q'), 1, ('p',))
        self.assertEqual(
            [machine.sets, machine.following('a'), tuple(machine.runs(3))],
            [(('p',), ('q',)), ('a', 'b'), (('a', 'a', 'a'), ('a', 'a', 'b'), ('a', 'b', 'a'))])

    def test_second_example_of_section_4(self):
        with self.assertRaises(BadSteps) as caught:
            Machine((), (1,), ('p', 'q'), 1, ('p',))
        self.assertEqual(caught.exception.value, ())


class WrongPartsTest(unittest.TestCase):

    def raised(self, error, value, **parts):
        before = copy.deepcopy(value)
        with self.assertRaises(error) as caught:
            Machine(**parts)
        self.assertIs(type(caught.exception), error)
        self.assertIs(caught.exception.value, value)
        self.assertEqual(repr(value), repr(before))

    def test_each_error_alone(self):
        for part, values in BAD.items():
            for value in values:
                with self.subTest(part=part, value=repr(value)[:60]):
                    self.raised(ERRORS[part], value, **{**GOOD, part: value})

    def test_any_value_that_is_none_of_the_part(self):
        for part in GOOD:
            for value in ANY_VALUES:
                try:
                    Machine(**{**GOOD, part: value})
                except ERRORS[part] as error:
                    self.assertIs(error.value, value)
                else:
                    good = {'steps': ((('a', 'p', ()),),), 'clock': (), 'pages': (), 'move': (0, 1, 2), 'first': (('p',),)}
                    self.assertIn(value, good[part])

    def test_several_at_once_raise_the_first_one(self):
        parts = list(GOOD)
        for number, part in enumerate(parts):
            for value in BAD[part][:6]:
                wrong = dict(GOOD)
                wrong[part] = value
                for later in parts[number + 1:]:
                    wrong[later] = BAD[later][1]
                self.raised(ERRORS[part], value, **wrong)
            for later in parts[number + 1:]:
                value = BAD[part][2]
                self.raised(ERRORS[part], value, **{**GOOD, part: value, later: BAD[later][0]})

    def test_a_page_of_a_step_that_pages_lack(self):
        steps = (('a', 'r', ('a',)),)
        self.raised(BadPages, pages := ('p', 'q'), **{**GOOD, 'steps': steps, 'pages': pages})
        self.assertEqual(Machine(**{**GOOD, 'steps': steps, 'pages': ('p', 'r')}).pages, ('p', 'r'))

    def test_sets_of_all_pages_and_of_others(self):
        three = {**GOOD, 'pages': ('p', 'q', 'r')}
        for first in (('p', 'q', 'r'), ('q', 'p'), ('p', 's'), ('p', 'p'), (), ['p', 'q'], ('p', None), (None, 'p')):
            self.raised(BadSet, first, **{**three, 'first': first})
        for first in (('p',), ('r',), ('p', 'r'), ('q', 'r')):
            self.assertEqual(Machine(**{**three, 'first': first}).first, first)


class PartsTest(unittest.TestCase):

    def test_what_was_passed_is_told_again(self):
        for part, value in GOOD.items():
            self.assertEqual(getattr(Machine(**GOOD), part), value)
        by_position = Machine(*GOOD.values())
        self.assertEqual(by_position, Machine(**GOOD))
        self.assertEqual(GOOD['steps'], (('a', 'p', ('a', 'b')), ('b', 'q', ('a',))))

    def test_eight_steps_and_one_step(self):
        steps = tuple([(name, None, ()) for name in LETTERS[:8]])
        self.assertEqual(Machine(**{**GOOD, 'steps': steps}).names, tuple(LETTERS[:8]))
        self.assertEqual(Machine(**{**GOOD, 'steps': (('z', 'q', ()),)}).names, ('z',))

    def test_names_of_eight_letters(self):
        steps = (('abcdefgh', 'zyxwvuts', ('abcdefgh',)),)
        machine = Machine(steps, (1,), ('p', 'zyxwvuts'), 0, ('zyxwvuts',))
        self.assertEqual((machine.names, machine.page('abcdefgh')), (('abcdefgh',), 'zyxwvuts'))

    def test_names_and_pages_may_be_the_same(self):
        machine = Machine((('p', 'p', ('p',)),), (1,), ('p', 'q'), 0, ('q',))
        self.assertEqual((machine.names, machine.page('p')), (('p',), 'p'))

    def test_three_following_steps_and_none(self):
        steps = (('b', 'p', ('a', 'b', 'c')), ('a', None, ()), ('c', 'q', ('b',)))
        machine = Machine(**{**GOOD, 'steps': steps})
        self.assertEqual(machine.names, ('b', 'a', 'c'))
        self.assertEqual([machine.following(name) for name in 'abc'], [(), ('a', 'b', 'c'), ('b',)])
        self.assertEqual([machine.page(name) for name in 'abc'], [None, 'p', 'q'])

    def test_edges_of_clock_and_move(self):
        for clock in ((1,), (3,), (1, 1, 1), (3, 2, 1)):
            self.assertEqual(Machine(**{**GOOD, 'clock': clock}).clock, clock)
        for move in range(10):
            self.assertEqual(Machine(**{**GOOD, 'move': move}).move, move)

    def test_all_sets_ascending(self):
        pages = ('p', 'q', 'r', 's')
        told = [Machine(**{**GOOD, 'pages': pages, 'first': first}).sets for first in (('s',), ('q', 'r'), pages[1:])]
        self.assertEqual(told, [
            (('p',), ('q',), ('r',), ('s',)),
            (('p', 'q'), ('p', 'r'), ('p', 's'), ('q', 'r'), ('q', 's'), ('r', 's')),
            (('p', 'q', 'r'), ('p', 'q', 's'), ('p', 'r', 's'), ('q', 'r', 's'))])

    def test_sequences_are_tuples(self):
        for machine in MACHINES:
            told = [machine.steps, machine.clock, machine.pages, machine.first, machine.names, machine.sets,
                    machine.following(machine.names[0]), *machine.sets]
            self.assertEqual({type(value) for value in told}, {tuple})

    def test_properties_are_read_only(self):
        machine = Machine(**GOOD)
        for name in list(GOOD) + ['names', 'sets']:
            self.assertIsInstance(vars(Machine)[name], property)
            before = getattr(machine, name)
            with self.assertRaises(AttributeError):
                setattr(machine, name, ())
            with self.assertRaises(AttributeError):
                delattr(machine, name)
            self.assertEqual(getattr(machine, name), before)


class StepTest(unittest.TestCase):

    def test_each_step(self):
        for machine in MACHINES:
            for name, page, following in machine.steps:
                self.assertEqual(machine.page(name), page)
                self.assertEqual(machine.page(name=name), page)
                self.assertEqual(machine.following(name), following)
                self.assertEqual(machine.following(name=name), following)

    def test_no_step_for_any_value(self):
        for value in ANY_VALUES + ('ab', 'c', ['a', 'b'], ('a', 'b'), {'a': 'b'}):
            if value == 'a':
                continue
            for method in (EXAMPLE.following, EXAMPLE.page):
                with self.assertRaises(NoStep) as caught:
                    method(value)
                self.assertIs(caught.exception.value, value)


class EqualTest(unittest.TestCase):

    def test_equal_by_the_five_parts(self):
        machine = Machine(**GOOD)
        self.assertTrue(machine == Machine(*GOOD.values()))
        self.assertFalse(machine != Machine(*GOOD.values()))
        others = {'steps': STEPS[:1] + (('b', 'q', ('b',)),), 'clock': (2, 2), 'pages': ('p', 'q', 'r'), 'move': 2,
                  'first': ('q',)}
        for part, value in others.items():
            other = Machine(**{**GOOD, part: value})
            self.assertFalse(machine == other)
            self.assertTrue(machine != other)
            self.assertTrue(other == Machine(**{**GOOD, part: value}))

    def test_steps_in_another_order_are_another_machine(self):
        self.assertFalse(Machine(**GOOD) == Machine(**{**GOOD, 'steps': STEPS[::-1]}))

    def test_calls_between_change_nothing(self):
        machine = Machine(**GOOD)
        list(machine.runs(5))
        machine.is_run(('a',))
        self.assertEqual(machine, Machine(**GOOD))

    def test_beside_a_thing_that_is_no_machine(self):
        machine = Machine(**GOOD)
        for thing in ANY_VALUES + (tuple(GOOD.values()), list(GOOD.values()), dict(GOOD), Machine, object()):
            self.assertIs(machine == thing, False)
            self.assertIs(thing == machine, False)
            self.assertIs(machine != thing, True)


class NothingSharedTest(unittest.TestCase):

    def test_machines_know_only_their_own_steps(self):
        self.assertEqual(MIXED.following('end'), ())
        with self.assertRaises(NoStep):
            EXAMPLE.page('end')


if __name__ == '__main__':
    unittest.main()
