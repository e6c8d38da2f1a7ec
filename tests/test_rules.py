import copy
import unittest

from oracle import WATCHED, numbers_by_turn
from rulebook import FOLLOWING, STILL, some_rules
from samples import ANY_VALUES, EXAMPLE, FREE, MIXED, STEPS, nested, price_of, turns_by_tick
from seldomseen.errors import BadRun, BadStates, BadWatch
from seldomseen.machines import Machine
from seldomseen.prices import price
from seldomseen.rules import Rule

BOTH = (('p', 'q'),)
STATES = ((0, ('p',), (0, 1, 0, 1)), (0, ('q',), (1, 1, 0, 0)))


def with_first(state):
    return (state,) + STATES[1:]


def with_second(state):
    return STATES[:1] + (state,)


BAD_STATES = (
    (), list(STATES), STATES[:1], STATES[1:], STATES[::-1], STATES + (None,), STATES + ((),), None, True, 0, 'a', {},
    with_first([0, ('p',), (0, 1, 0, 1)]), with_first((0, ('p',))), with_first((0, ('p',), (0, 1, 0, 1), 0)),
    with_first((1, ('p',), (0, 1, 0, 1))), with_first((-1, ('p',), (0, 1, 0, 1))),
    with_first((False, ('p',), (0, 1, 0, 1))), with_first((None, ('p',), (0, 1, 0, 1))),
    with_first(('0', ('p',), (0, 1, 0, 1))), with_first((0, ('q',), (0, 1, 0, 1))), with_first((0, ('r',), (0, 1, 0, 1))),
    with_first((0, (), (0, 1, 0, 1))), with_first((0, ('p', 'q'), (0, 1, 0, 1))), with_first((0, ['p'], (0, 1, 0, 1))),
    with_first((0, 'p', (0, 1, 0, 1))), with_first((0, None, (0, 1, 0, 1))), with_first((0, ({},), (0, 1, 0, 1))),
    with_second((0, ('r',), (1, 1, 0, 0))), with_second((0, ['q'], (1, 1, 0, 0))), with_second((1, ('q',), (1, 1, 0, 0))),
    with_second((True, ('q',), (1, 1, 0, 0))), with_second((0, ('p', 'q'), (1, 1, 0, 0))),
    with_second((0, ('q',), ())), with_second((0, ('q',), (0,))), with_second((0, ('q',), (1, 1))),
    with_second((0, ('q',), (1, 1, 0))), with_second((0, ('q',), (1, 1, 0, 0, 0))), with_second((0, ('q',), (1,) * 8)),
    with_second((0, ('q',), [1, 1, 0, 0])), with_second((0, ('q',), (1, 1, 0, 2))), with_second((0, ('q',), (1, 1, 0, -1))),
    with_second((0, ('q',), (1, 1, 0, True))), with_second((0, ('q',), (1, 1, 0, False))),
    with_second((0, ('q',), (1, 1, 0, None))), with_second((0, ('q',), (1, 1, 0, '0'))),
    with_second((0, ('q',), (1, 1, 0, (0,)))), with_second((0, ('q',), (1, 1, 0, [0]))),
    with_second((0, ('q',), None)), with_second((0, ('q',), 'abcd')), with_second((0, ('q',), {0: 0, 1: 1, 2: 0, 3: 0})),
    with_second((0, ('q',), (1, 1, 0, {}))), with_second((0, ('q',), (1, 1, 0, 10 ** 17))), nested(40),
    (STATES[0],) + (STATES[1],) * 12,
    # States that no answer leads to.
    STATES + ((-1, ('q',), (0, 0, 0, 0)),), STATES + ((1, ('q',), (0, 0, 0, 0)),), STATES + ((False, ('q',), (0, 0, 0, 0)),),
    STATES + ((0, ('q',), (0, 0, 0, 3)),), STATES + ((0, ('q',), (0, 0, 0)),), STATES + ((0, ('r',), (0, 0, 0, 0)),))


def all_runs(machine, most=6):
    return [run for length in range(1, most + 1) for run in machine.runs(length)]


class PartsTest(unittest.TestCase):

    def test_what_was_passed_is_told_again(self):
        rule = Rule(EXAMPLE, BOTH, STATES)
        self.assertEqual((rule.machine, rule.watch, rule.states), (EXAMPLE, BOTH, STATES))
        self.assertEqual(Rule(machine=EXAMPLE, watch=BOTH, states=STATES), rule)
        self.assertEqual((type(rule.watch), type(rule.states)), (tuple, tuple))

    def test_properties_are_read_only(self):
        rule = Rule(EXAMPLE, BOTH, STATES)
        for name in ('machine', 'watch', 'states'):
            self.assertIsInstance(vars(Rule)[name], property)
            before = getattr(rule, name)
            with self.assertRaises(AttributeError):
                setattr(rule, name, ())
            with self.assertRaises(AttributeError):
                delattr(rule, name)
            self.assertEqual(getattr(rule, name), before)

    def test_one_state_and_twelve(self):
        self.assertEqual(len(Rule(EXAMPLE, ((),), ((0, ('p',), (0,)),)).states), 1)
        ring = ((0, ('p',), (1,)),) + tuple((0, ('q',), ((k + 1) % 12,)) for k in range(1, 12))
        self.assertEqual(len(Rule(EXAMPLE, ((),), ring).states), 12)
        with self.assertRaises(BadStates):
            Rule(EXAMPLE, ((),), ring + ((0, ('q',), (0,)),))

    def test_answers_lead_to_the_next_place(self):
        watch = ((), ('a',))
        good = ((0, ('b',), (2,)), (0, ('a',), (2,)), (1, ('c',), (1, 0)))
        self.assertEqual(Rule(FREE, watch, good).states, good)
        for bad in (
                ((0, ('b',), (1,)), (0, ('a',), (2,)), (1, ('c',), (1, 0))),
                ((0, ('b',), (0,)), (0, ('a',), (2,)), (1, ('c',), (1, 0))),
                ((0, ('b',), (2,)), (0, ('a',), (2,)), (1, ('c',), (1, 2))),
                ((0, ('b',), (2,)), (0, ('a',), (2,)), (1, ('c',), (1,))),
                ((0, ('b',), (2, 2)), (0, ('a',), (2,)), (1, ('c',), (1, 0))),
                ((0, ('b',), (2,)), (1, ('a',), (2,)), (1, ('c',), (1, 0))),
                ((1, ('b',), (2, 2)), (0, ('a',), (0,)), (0, ('c',), (0,))),
                ((0, ('a',), (2,)), (0, ('b',), (2,)), (1, ('c',), (1, 0))),
                ((0, ('b',), (2,)), (0, ('a',), (2,)), (2, ('c',), (1, 0)))):
            with self.assertRaises(BadStates) as caught:
                Rule(FREE, watch, bad)
            self.assertIs(caught.exception.value, bad)
        # No state of the place to which the first one has to lead.
        with self.assertRaises(BadStates):
            Rule(FREE, watch, ((0, ('b',), (0,)),))
        three = Rule(MIXED, ((), (), ()), ((0, ('p', 'r'), (1,)), (1, ('p', 'q'), (2,)), (2, ('r', 's'), (0,))))
        self.assertEqual(three.numbers(('go',) * 8), (0, 1, 2, 0, 1))


class WrongTest(unittest.TestCase):

    def raised(self, error, value, *parts):
        before = copy.deepcopy(value)
        with self.assertRaises(error) as caught:
            Rule(*parts)
        self.assertIs(type(caught.exception), error)
        self.assertIs(caught.exception.value, value)
        self.assertEqual(value, before)

    def test_bad_watch_goes_ahead(self):
        for value in ANY_VALUES + ((('q', 'p'),), (('p',), ('q',)), [('p', 'q')], (['p', 'q'],)):
            if value != ((),):
                self.raised(BadWatch, value, EXAMPLE, value, STATES)
                self.raised(BadWatch, value, EXAMPLE, value, 'no states')

    def test_bad_states(self):
        for value in BAD_STATES + ANY_VALUES:
            self.raised(BadStates, value, EXAMPLE, BOTH, value)

    def test_any_value_as_a_part(self):
        for value in ANY_VALUES:
            self.raised(BadStates, states := with_second(value), EXAMPLE, BOTH, states)
            if value != 0 or value is False:
                self.raised(BadStates, states := with_first((value, ('p',), (0, 1, 0, 1))), EXAMPLE, BOTH, states)
            if value != ('p',):
                self.raised(BadStates, states := with_first((0, value, (0, 1, 0, 1))), EXAMPLE, BOTH, states)
            self.raised(BadStates, states := with_first((0, ('p',), value)), EXAMPLE, BOTH, states)
            if type(value) is not int or value not in (0, 1):
                self.raised(BadStates, states := with_first((0, ('p',), (0, 1, 0, value))), EXAMPLE, BOTH, states)

    def test_bad_run(self):
        for value in ANY_VALUES + (('b',), ['a', 'b'], ('a', 'b', 'b'), ('a', ['b'])):
            if value != ('a',):
                for call in (FOLLOWING.row, FOLLOWING.numbers, FOLLOWING.price):
                    with self.assertRaises(BadRun) as caught:
                        call(value)
                    self.assertIs(caught.exception.value, value)


class RunTest(unittest.TestCase):

    def test_a_rule_by_hand(self):
        run = ('a', 'a', 'b', 'a', 'b', 'a', 'a', 'a', 'b')
        # Behind a turn with both marks it goes to q if it had p, and the other way about.
        self.assertEqual(FOLLOWING.numbers(run), (0, 0, 1, 0, 0))
        self.assertEqual(FOLLOWING.row(run), (('p',), ('p',), ('q',), ('p',), ('p',)))
        self.assertEqual(FOLLOWING.price(run), 0 + 1 + 1 + 1 + 1 + 0 + 1)
        self.assertEqual(FOLLOWING.row(run=('a', 'b')), (('p',),))
        self.assertEqual(FOLLOWING.row(('a', 'b', 'a')), (('p',), ('q',)))
        self.assertEqual(FOLLOWING.numbers(run=('a',)), (0,))
        self.assertEqual(FOLLOWING.price(run=('a', 'b', 'a')), 1 + 1 + 1)

    def test_false_stands_ahead_of_true(self):
        # The answers to (False, False), (False, True), (True, False), (True, True), in this order.
        machine = Machine(
            (('a', None, ('a', 'b', 'c')), ('b', 'p', ('a', 'c')), ('c', 'q', ('a', 'b'))), (2,), ('p', 'q', 'r', 's'), 1,
            ('s',))
        rule = Rule(machine, BOTH, (
            (0, ('s',), (1, 2, 3, 4)), (0, ('p',), (1,) * 4), (0, ('q',), (2,) * 4), (0, ('r',), (3,) * 4),
            (0, ('s',), (4,) * 4)))
        told = [rule.numbers(run)[1] for run in (('a', 'a', 'a'), ('a', 'c', 'a'), ('a', 'b', 'a'))]
        self.assertEqual(told, [1, 2, 3])

    def test_against_a_walk_turn_by_turn(self):
        for machine, watches in WATCHED:
            for watch in watches:
                for rule in some_rules(machine, watch, 3, 4):
                    for run in all_runs(machine)[::3]:
                        numbers, whole = numbers_by_turn(rule, run)
                        numbers = tuple(numbers[:-1] if whole else numbers)
                        row = tuple(rule.states[number][1] for number in numbers)
                        self.assertEqual(len(row), len(turns_by_tick(machine, run)))
                        self.assertEqual(rule.numbers(run), numbers)
                        self.assertEqual(rule.row(run), row)
                        self.assertEqual(rule.price(run), price_of(machine, run, row))
                        self.assertEqual(rule.price(run), price(machine, run, rule.row(run)))

    def test_long_runs(self):
        run = ('a', 'b') * 1000
        self.assertEqual(FOLLOWING.numbers(run), (0, 1) * 500)
        self.assertEqual(STILL.price(run), 1000)

    def test_calls_change_nothing(self):
        rule = Rule(EXAMPLE, BOTH, STATES)
        for run in all_runs(EXAMPLE, 4):
            self.assertEqual([rule.row(run), rule.numbers(run), rule.price(run)],
                             [rule.row(run), rule.numbers(run), rule.price(run)])
        self.assertEqual(rule, Rule(EXAMPLE, BOTH, STATES))


class EqualTest(unittest.TestCase):

    def test_by_machine_watch_and_states(self):
        rule = Rule(EXAMPLE, BOTH, STATES)
        self.assertTrue(rule == Rule(Machine(STEPS, (2,), ('p', 'q'), 1, ('p',)), BOTH, STATES))
        self.assertFalse(rule != Rule(EXAMPLE, BOTH, STATES))
        dearer = Machine(STEPS, (2,), ('p', 'q'), 2, ('p',))
        for other in (
                Rule(dearer, BOTH, STATES), Rule(EXAMPLE, BOTH, STATES + STATES[1:]),
                Rule(EXAMPLE, BOTH, ((0, ('p',), (0, 1, 0, 0)), STATES[1]))):
            self.assertFalse(rule == other)
            self.assertTrue(rule != other)
        one, other = [Rule(EXAMPLE, watch, ((0, ('p',), (0, 0)),)) for watch in ((('p',),), (('q',),))]
        self.assertFalse(one == other)

    def test_beside_a_thing_that_is_no_rule(self):
        rule = Rule(EXAMPLE, BOTH, STATES)
        for thing in ANY_VALUES + (EXAMPLE, BOTH, STATES, (EXAMPLE, BOTH, STATES), Rule, object()):
            self.assertIs(rule == thing, False)
            self.assertIs(thing == rule, False)
            self.assertIs(rule != thing, True)


if __name__ == '__main__':
    unittest.main()
