import copy
import random
import unittest

from samples import (
    ANY_VALUES, CHEAP, DEAR, EXAMPLE, FREE, MACHINES, MIXED, all_rows, are_shown, nested, price_of)
from seldomseen.errors import BadRun, BadSets
from seldomseen.machines import Machine
from seldomseen.prices import best, price, shows_best

RUN = ('a', 'b', 'a', 'a')
BAD_RUNS = ((), ['a'], ('b',), ('a', 'c'), ('a', 'b', 'b'), 'a', None, True, 0, {}, ('a', ['b']), ('a', {}), [],
            nested(40), nested(40, lambda value: [value]))


def some_runs(machine, lengths=range(1, 7)):
    return [run for length in lengths for run in machine.runs(length)]


class ExampleTest(unittest.TestCase):

    def test_example_of_section_5(self):
        machine = Machine((('a', 'p', ('a', 'b')), ('b', 'q', ('a',))), (2,), ('p', 'q'), 1, ('p',))
        run = ('a', 'b', 'a', 'a')
        self.assertEqual([price(machine, run, (('p',), ('p',))), best(machine, run)[:2]], [1, (1, (('p',), ('p',)))])


class PriceTest(unittest.TestCase):

    def test_slow_touches_and_moves(self):
        self.assertEqual(price(EXAMPLE, RUN, (('p',), ('q',))), 1 + 1 + 2)
        self.assertEqual(price(EXAMPLE, ('a',), (('p',),)), 0)
        self.assertEqual(price(machine=EXAMPLE, run=('a', 'b'), sets=(('p',),)), 1)

    def test_turns_that_are_cut_short(self):
        self.assertEqual(price(EXAMPLE, RUN[:3], (('p',), ('p',))), 1)
        self.assertEqual(price(EXAMPLE, RUN[:3], (('p',), ('q',))), 1 + 1 + 1)
        run = ('go', 'rest', 'work')
        self.assertEqual(price(MIXED, run, (('p', 'r'), ('q', 's'))), 4)
        self.assertEqual(price(MIXED, run, (('p', 'r'), ('q', 'r'))), 2)
        self.assertEqual(price(MIXED, run, (('p', 'r'), ('p', 'r'))), 1)

    def test_moves_only_behind_turns_with_a_next_one(self):
        self.assertEqual(price(DEAR, ('x',), (('a', 'b'),)), 0)
        self.assertEqual(price(DEAR, ('x', 'z'), (('a', 'b'), ('a', 'c'))), 9)
        self.assertEqual(price(DEAR, ('x', 'z'), (('a', 'b'), ('a', 'b'))), 1)
        self.assertEqual(price(DEAR, ('x', 'z', 'y'), (('a', 'b'), ('a', 'c'), ('b', 'c'))), 18)

    def test_a_step_without_a_page_costs_nothing(self):
        run = ('go', 'rest', 'go', 'rest')
        self.assertEqual(price(MIXED, run, (('p', 'r'), ('p', 'r'))), 0)
        self.assertEqual(price(MIXED, run, (('p', 'r'), ('r', 's'))), 2 + 1)

    def test_all_rows_of_some_runs(self):
        for machine in MACHINES:
            for run in some_runs(machine, range(1, 5)):
                for row in all_rows(machine, run):
                    self.assertEqual(price(machine, run, row), price_of(machine, run, row))

    def test_a_run_longer_than_those_generated(self):
        self.assertEqual(price(EXAMPLE, ('a', 'b') * 50, (('p',),) * 50), 50)

    def test_bad_run(self):
        for value in BAD_RUNS:
            for call in (lambda: price(EXAMPLE, value, (('p',),)), lambda: price(EXAMPLE, value, 'no sets')):
                with self.assertRaises(BadRun) as caught:
                    call()
                self.assertIs(caught.exception.value, value)

    def test_bad_sets(self):
        bad = (
            (), (('p',),), (('p',), ('p',), ('p',)), (('q',), ('p',)), (('q',), ('q',)), [('p',), ('p',)],
            (['p'], ('p',)), (('p',), ['p']), (('p',), ('r',)), (('p',), ()), (('p',), ('p', 'q')), (('p',), 'p'),
            ('p', 'p'), (('p',), None), (('p',), {}), (('p',), (True,)), (('p',), (['p'],)), (('p',), nested(39)),
            None, True, 0, 'pp', {})
        for value in bad + ANY_VALUES:
            before = copy.deepcopy(value)
            with self.assertRaises(BadSets) as caught:
                price(EXAMPLE, RUN, value)
            self.assertIs(caught.exception.value, value)
            self.assertEqual(value, before)

    def test_sets_of_another_size_or_order(self):
        run = ('go', 'go')
        for row in ((('p', 'r'), ('r', 'p')), (('p', 'r'), ('p',)), (('p', 'r'), ('p', 'q', 'r')), (('p', 'r'),),
                    (('p', 'r'), ('p', 'p')), (('p', 'q'), ('p', 'r')), (('r', 'p'), ('p', 'r'))):
            with self.assertRaises(BadSets) as caught:
                price(MIXED, run, row)
            self.assertIs(caught.exception.value, row)


class BestTest(unittest.TestCase):

    def test_least_price_and_least_row(self):
        for machine in MACHINES:
            for run in some_runs(machine):
                value, sets, heights = best(machine, run)
                wanted = min([(price_of(machine, run, row), row) for row in all_rows(machine, run)])
                self.assertEqual((value, sets), wanted)
                self.assertEqual(price(machine, run, sets), value)
                self.assertTrue(are_shown(machine, run, value, heights), heights)

    def test_least_of_several_rows(self):
        # Nothing is touched behind the first turn, and moves are free: any sets cost as little.
        machine = Machine((('a', 'q', ('b',)), ('b', None, ('b',))), (1,), ('p', 'q', 'r'), 0, ('r',))
        self.assertEqual(best(machine, ('a', 'b', 'b'))[:2], (1, (('r',), ('p',), ('p',))))

    def test_moves_that_pay_and_moves_that_do_not(self):
        run = ('x', 'y', 'z', 'z', 'z', 'z')
        self.assertEqual(best(CHEAP, run)[:2], (2, (('a',), ('c',), ('c',), ('c',))))
        self.assertEqual(best(DEAR, ('x', 'z', 'x', 'z'))[:2], (2, (('a', 'b'),) * 4))
        self.assertEqual(best(FREE, ('x', 'y', 'z'))[:2], (2, (('b',), ('b',))))

    def test_turn_0_has_the_first_set(self):
        self.assertEqual(best(FREE, ('x',)), (1, (('b',),), ((0, ('b',), 1),)))

    def test_keywords_kinds_and_equal_calls(self):
        told = best(machine=EXAMPLE, run=RUN)
        self.assertEqual(told, best(EXAMPLE, RUN))
        value, sets, heights = told
        self.assertEqual([type(told), type(value), type(sets), type(heights)], [tuple, int, tuple, tuple])
        self.assertEqual({type(row) for row in heights}, {tuple})

    def test_longest_runs(self):
        for machine in MACHINES:
            run = next(machine.runs(24))
            value, sets, heights = best(machine, run)
            self.assertEqual(price(machine, run, sets), value)
            self.assertTrue(shows_best(machine, run, value, heights))
            self.assertFalse(shows_best(machine, run, value + 1, heights))
        self.assertEqual(best(EXAMPLE, ('a', 'b') * 50)[0], 50)

    def test_bad_run(self):
        for value in BAD_RUNS:
            with self.assertRaises(BadRun) as caught:
                best(EXAMPLE, value)
            self.assertIs(caught.exception.value, value)


class ShowsBestTest(unittest.TestCase):

    def test_for_its_value_and_lesser_ones_alone(self):
        for machine in MACHINES:
            for run in some_runs(machine, range(1, 6)):
                value, _, heights = best(machine, run)
                for least in (value, value - 1, 0, -5, -10 ** 17):
                    if least <= value:
                        self.assertIs(shows_best(machine, run, least, heights), True)
                for more in (value + 1, value + 2, 10 ** 17):
                    self.assertIs(shows_best(machine, run, more, heights), False)
                self.assertIs(shows_best(machine=machine, run=run, value=value, heights=heights), True)

    def test_these_heights_with_something_otherwise(self):
        run, good = RUN, ((0, ('p',), 1), (1, ('p',), 1), (1, ('q',), 4))
        self.assertTrue(shows_best(EXAMPLE, run, 1, good))
        otherwise = (
            ((0, ('p',), 2), (1, ('p',), 1), (1, ('q',), 4)),
            ((0, ('p',), 0), (1, ('p',), 1), (1, ('q',), 4)),
            ((0, ('p',), 1), (1, ('p',), 2), (1, ('q',), 4)),
            ((0, ('p',), 1), (1, ('p',), 0), (1, ('q',), 4)),
            ((0, ('p',), 1), (1, ('p',), 1), (1, ('q',), 5)),
            ((0, ('p',), 1), (1, ('p',), 1), (1, ('q',), 0)),
            ((1, ('p',), 1), (1, ('q',), 4)),
            ((0, ('p',), 1), (1, ('q',), 4)),
            ((0, ('p',), 1), (1, ('p',), 1)),
            ((0, ('p',), 1), (0, ('p',), 1), (1, ('p',), 1), (1, ('q',), 4)),
            ((0, ('p',), 0), (0, ('p',), 1), (1, ('p',), 1), (1, ('q',), 4)),
            ((0, ('p',), 1), (1, ('p',), 1), (1, ('p',), 1), (1, ('q',), 4)),
            ((0, ('p',), 1), (1, ('p',), 1), (1, ('p',), 2), (1, ('q',), 4)),
            ((1, ('p',), 1), (0, ('p',), 1), (1, ('q',), 4)),
            ((0, ('p',), 1), (1, ('q',), 4), (1, ('p',), 1)),
            ((0, ('q',), 1), (1, ('p',), 1), (1, ('q',), 4)),
            ((0, ('p',), 1), (1, ('p',), 1), (1, ('r',), 4)),
            ((0, ('p',), 1), (1, ('p',), 1), (1, ('p', 'q'), 4)),
            ((0, ('p',), 1), (1, (), 1), (1, ('p',), 1), (1, ('q',), 4)),
            ((0, ('p',), 1), (1, ('p',), 1), (1, ('q',), 4), (2, ('p',), 4)),
            ((-1, ('p',), 1), (0, ('p',), 1), (1, ('p',), 1), (1, ('q',), 4)),
            ((0, ('p',), 1), (1, ('p',), 1), (2, ('q',), 4)),
            [(0, ('p',), 1), (1, ('p',), 1), (1, ('q',), 4)],
            ([0, ('p',), 1], (1, ('p',), 1), (1, ('q',), 4)),
            ((0, ['p'], 1), (1, ('p',), 1), (1, ('q',), 4)),
            ((0, ('p',), 1), (1, ('p',), 1), (1, ['q'], 4)),
            ((False, ('p',), 1), (1, ('p',), 1), (1, ('q',), 4)),
            ((0, ('p',), True), (1, ('p',), 1), (1, ('q',), 4)),
            ((0, ('p',), 1), (True, ('p',), 1), (1, ('q',), 4)),
            ((0, ('p',), 1), (1, ('p',), True), (1, ('q',), 4)),
            ((0, ('p',), 1), (1, ('p',), 1), (1, ('q',), None)),
            ((0, ('p',), 1), (1, ('p',), 1), (1, ('q',), '4')),
            ((0, ('p',), 1), (1, ('p',), 1), (1, ('q',), (4,))),
            ((0, ('p',), 1), (1, ('p',), 1), (1, 'q', 4)),
            ((0, ('p',), 1), (1, ('p',), 1), (1, {'q': 1}, 4)),
            ((0, ('p',), 1), (1, ('p',), 1), ('1', ('q',), 4)),
            ((0, ('p',), 1), (1, ('p',), 1), (None, ('q',), 4)),
            ((0, ('p',), 1), (1, ('p',), 1), ([1], ('q',), 4)),
            ((0, ('p',), 1), (1, ('p',), 1), (1, ('q',))),
            ((0, ('p',), 1), (1, ('p',), 1), (1, ('q',), 4, 4)),
            ((0, ('p',), 1), (1, ('p',), 1), ()),
            ((0, ('p',), 1), (1, ('p',), 1), None),
            ((0, ('p',), 1), (1, ('p',), 1), [1, ('q',), 4]),
            {(0, ('p',)): 1},
            (),
        )
        for heights in otherwise:
            before = copy.deepcopy(heights)
            self.assertIs(shows_best(EXAMPLE, run, 1, heights), False, heights)
            self.assertFalse(are_shown(EXAMPLE, run, 1, heights), heights)
            self.assertEqual(heights, before)

    def test_other_heights_that_show_it_as_well(self):
        for heights in (((0, ('p',), 1), (1, ('p',), 1), (1, ('q',), 3)),
                        ((0, ('p',), 1), (1, ('p',), 1), (1, ('q',), 1))):
            self.assertIs(shows_best(EXAMPLE, RUN, 1, heights), True)
        for heights in (((0, ('p',), 0), (1, ('p',), 0), (1, ('q',), 3)),
                        ((0, ('p',), -3), (1, ('p',), -3), (1, ('q',), 0))):
            self.assertIs(shows_best(EXAMPLE, RUN, 1, heights), False)
            self.assertIs(shows_best(EXAMPLE, RUN, -3, heights), True)

    def test_heights_of_turn_0_with_other_sets_count_too(self):
        good = ((0, ('p',), 1), (0, ('q',), 9), (1, ('p',), 1), (1, ('q',), 4))
        self.assertTrue(shows_best(EXAMPLE, RUN, 1, good))
        self.assertFalse(shows_best(EXAMPLE, RUN, 1, ((0, ('p',), 1), (0, ('q',), -1)) + good[2:]))
        self.assertFalse(shows_best(EXAMPLE, RUN, 1, ((0, ('q',), 1),) + good[2:]))

    def test_form_alone_may_be_what_is_wrong(self):
        good = ((0, ('p',), 1), (0, ('q',), 2), (1, ('p',), 1), (1, ('q',), 3), (1, ('q',), 4))
        for left_out in (good[3:4], good[4:]):
            self.assertIs(shows_best(EXAMPLE, RUN, 1, tuple([row for row in good if row not in left_out])), True)
        self.assertIs(shows_best(EXAMPLE, RUN, 1, good), False)
        self.assertIs(shows_best(EXAMPLE, RUN, 1, ((-1, ('p',), 100),) + good[:4]), False)
        self.assertIs(shows_best(EXAMPLE, RUN, 1, good[:4] + ((2, ('p',), 100),)), False)

    def test_rows_of_the_only_turn(self):
        self.assertTrue(shows_best(EXAMPLE, ('a', 'b'), 1, ((0, ('p',), 1),)))
        self.assertTrue(shows_best(EXAMPLE, ('a', 'b'), 1, ((0, ('p',), 1), (0, ('q',), 10 ** 17))))
        self.assertFalse(shows_best(EXAMPLE, ('a', 'b'), 1, ((0, ('p',), 1), (0, ('q',), 0))))
        self.assertFalse(shows_best(EXAMPLE, ('a', 'b'), 1, ((0, ('q',), 1),)))
        self.assertFalse(shows_best(EXAMPLE, ('a', 'b'), 1, ()))
        self.assertFalse(shows_best(EXAMPLE, ('a', 'b'), 2, ((0, ('p',), 2),)))

    def test_heights_changed_at_random(self):
        chance = random.Random(5)
        counted = {True: 0, False: 0}
        for machine in MACHINES:
            for run in some_runs(machine, range(1, 6)):
                value, _, heights = best(machine, run)
                for _ in range(12):
                    changed = changed_at_random(chance, machine, heights)
                    least = value - chance.choice((0, 0, 1))
                    wanted = are_shown(machine, run, least, changed)
                    counted[wanted] += 1
                    self.assertIs(shows_best(machine, run, least, changed), wanted, (run, least, changed))
        self.assertGreater(min(counted.values()), 100)

    def test_what_is_shown_is_so(self):
        for machine in MACHINES:
            for run in some_runs(machine, range(1, 4)):
                heights = best(machine, run)[2]
                least = min([price_of(machine, run, row) for row in all_rows(machine, run)])
                self.assertTrue(shows_best(machine, run, least, heights))
                self.assertFalse(shows_best(machine, run, least + 1, heights))

    def test_heights_of_any_value(self):
        for value in ANY_VALUES:
            self.assertIs(shows_best(EXAMPLE, RUN, 0, value), False)
            self.assertIs(shows_best(EXAMPLE, RUN, 0, (value,)), False)
            self.assertIs(shows_best(EXAMPLE, RUN, 0, ((0, ('p',), 1), value)), False)
            rows = ((0, value, 1), (1, ('p',), 1), (1, ('q',), 4))
            self.assertIs(shows_best(EXAMPLE, RUN, 0, rows), value == ('p',))

    def test_bools_and_others_are_no_value(self):
        heights = best(EXAMPLE, RUN)[2]
        for value in (True, False, None, '1', (1,), [], {}):
            self.assertIs(shows_best(EXAMPLE, RUN, value, heights), False)

    def test_bad_run_goes_ahead(self):
        for value in BAD_RUNS:
            with self.assertRaises(BadRun) as caught:
                shows_best(EXAMPLE, value, 0, 'no heights')
            self.assertIs(caught.exception.value, value)


def changed_at_random(chance, machine, heights):
    rows = [list(row) for row in heights]
    at = chance.randrange(len(rows))
    way = chance.randrange(6)
    if way < 3:
        rows[at][2] += chance.choice((-2, -1, 1, 2))
    elif way == 3:
        rows[at][0] += chance.choice((-1, 1))
    elif way == 4:
        rows[at][1] = chance.choice(machine.sets)
    else:
        del rows[at]
    return tuple([tuple(row) for row in rows])


if __name__ == '__main__':
    unittest.main()
