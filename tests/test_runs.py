import types
import unittest
from itertools import islice, product

from samples import ANY_VALUES, EXAMPLE, MACHINES, MIXED
from seldomseen.errors import BadLength
from seldomseen.machines import Machine


def follows_all_along(machine, names):
    table = {name: following for name, _, following in machine.steps}
    return names[0] == machine.steps[0][0] and all(
        names[k] in table[names[k - 1]] for k in range(1, len(names)))


class IsRunTest(unittest.TestCase):

    def test_runs_and_what_is_nearly_one(self):
        for value in (('a',), ('a', 'a'), ('a', 'b'), ('a', 'b', 'a', 'a')):
            self.assertIs(EXAMPLE.is_run(value), True)
            self.assertIs(EXAMPLE.is_run(value=value), True)
        nearly = (
            (), [], ['a'], ['a', 'b'], ('b',), ('b', 'a'), ('a', 'b', 'b'), ('a', 'c'), ('a', 'b', 'c'), 'a', 'aa',
            ('a', None), (None, 'a'), ('a', ['b']), ('a', ('b',)), (('a',), 'b'), ('a', {'b': 1}), (['a'], 'a'),
            ({'a': 1}, 'a'), ('a', 'B'), ('a', ''), ('a', True), (True,), ('a', 0), {'a': 'a'}, None, True, 1, ('ab',),
            ('a', 'b ', 'a'), ('a', ['a'], 'b'), ('a', {}, 'a'))
        for value in nearly:
            self.assertIs(EXAMPLE.is_run(value), False, repr(value))

    def test_any_value(self):
        for machine in MACHINES:
            for value in ANY_VALUES:
                self.assertIs(machine.is_run(value), machine is EXAMPLE and value == ('a',))

    def test_behind_a_step_that_nothing_follows(self):
        self.assertTrue(MIXED.is_run(('go', 'end')))
        for name in MIXED.names:
            self.assertFalse(MIXED.is_run(('go', 'end', name)))

    def test_all_tuples_of_names(self):
        for machine in MACHINES:
            for length in range(1, 6):
                for names in product(machine.names, repeat=length):
                    self.assertIs(machine.is_run(names), follows_all_along(machine, names))

    def test_long_runs(self):
        self.assertTrue(EXAMPLE.is_run(('a', 'b') * 5000))
        self.assertFalse(EXAMPLE.is_run(('a', 'b') * 5000 + ('b',)))


class RunsTest(unittest.TestCase):

    def test_each_once_and_ascending(self):
        for machine in MACHINES:
            for length in range(1, 7):
                found = list(machine.runs(length))
                wanted = [names for names in product(sorted(machine.names), repeat=length)
                          if follows_all_along(machine, names)]
                self.assertEqual(found, wanted)
                self.assertEqual(list(machine.runs(length=length)), wanted)
                for run in found:
                    self.assertIs(type(run), tuple)
                    self.assertTrue(machine.is_run(run))

    def test_first_step_first_even_if_it_is_not_the_least(self):
        machine = Machine((('z', 'p', ('a', 'z')), ('a', None, ())), (1,), ('p', 'q'), 0, ('p',))
        self.assertEqual(list(machine.runs(1)), [('z',)])
        self.assertEqual(list(machine.runs(3)), [('z', 'z', 'a'), ('z', 'z', 'z')])

    def test_no_runs_where_nothing_follows(self):
        machine = Machine((('a', 'p', ()),), (1,), ('p', 'q'), 0, ('p',))
        self.assertEqual([list(machine.runs(length)) for length in (1, 2, 24)], [[('a',)], [], []])

    def test_the_longest_runs(self):
        ring = Machine((('a', 'p', ('b',)), ('b', 'q', ('a',))), (1,), ('p', 'q'), 0, ('p',))
        self.assertEqual(list(ring.runs(24)), [('a', 'b') * 12])
        found = list(islice(EXAMPLE.runs(24), 3))
        self.assertEqual(found, [('a',) * 24, ('a',) * 23 + ('b',), ('a',) * 22 + ('b', 'a')])

    def test_a_generator_that_begins_anew(self):
        runs = EXAMPLE.runs(2)
        self.assertIsInstance(runs, types.GeneratorType)
        self.assertEqual(next(runs), ('a', 'a'))
        self.assertEqual(list(EXAMPLE.runs(2)), [('a', 'a'), ('a', 'b')])
        self.assertEqual(list(runs), [('a', 'b')])
        self.assertEqual(list(runs), [])

    def test_bad_length(self):
        for value in ANY_VALUES + (0, 25, -3, True, False, None, '3', '', [3], (3,), [], {3: 3}, 10 ** 17):
            if type(value) is int and 1 <= value <= 24:
                continue
            with self.assertRaises(BadLength) as caught:
                next(EXAMPLE.runs(value))
            self.assertIs(caught.exception.value, value)


if __name__ == '__main__':
    unittest.main()
