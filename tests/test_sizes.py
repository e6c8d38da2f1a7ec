"""Machines of the sizes that the document allows, for which runs that fit are too many to be listed."""

import random
import unittest

from oracle import (
    counts_from, heights_hold, layers_hold, marks_by_tick, next_of, page_of, runs_that_fit, ticks_ago, times,
    total_ticks, ways_on_with)
from rulebook import doubled, made_up
from seldomseen.fitting import fits, fitting, how_many, shows_stuck, stuck, where
from seldomseen.machines import Machine
from seldomseen.rules import alike, shows_alike
from seldomseen.warmth import (
    age, fewest, most, shows_fewest, shows_most, shows_warmer, slow, touches, warmer, warmest)

PAGES = ('p', 'q', 'r', 's')


def big_machine(seed, clock):
    """Eight steps, each with three following ones, that touch four pages or none."""
    chance = random.Random(seed)
    names = 'abcdefgh'
    steps = tuple((name, chance.choice(PAGES + (None,)), tuple(sorted(chance.sample(names, 3)))) for name in names)
    return Machine(steps, clock, PAGES, 3, ('p', 'q'))


def some_run(machine, chance, ticks):
    run = (machine.names[0],)
    while len(run) < ticks:
        run += (chance.choice(next_of(machine, run[-1])),)
    return run


def big_cases():
    for seed, clock in ((1, (3,)), (2, (3, 3, 3)), (3, (3, 2, 3))):
        machine = big_machine(seed, clock)
        chance = random.Random(seed)
        many = len(clock)
        for watch in (((),) * many, (('p',),) * many, (('q', 's'),) + ((),) * (many - 1), (PAGES,) * many):
            run = some_run(machine, chance, total_ticks(machine, 8))
            yield machine, watch, marks_by_tick(machine, watch, run)[0], run


def ends_by(machine, watch, journal, begin, step):
    """What step(value, tick, name) makes of begin along runs that fit: {state: {value: number of runs}} at the end."""
    ahead = {(None, ()): {begin: 1}}
    for turn in range(len(journal)):
        behind, start = {}, total_ticks(machine, turn)
        for state, told in ahead.items():
            for names, after in ways_on_with(machine, watch, journal, turn, state):
                there = behind.setdefault(after, {})
                for value, many in told.items():
                    for k, name in enumerate(names):
                        value = step(value, start + k, name)
                    there[value] = there.get(value, 0) + many
        ahead = behind
    found = {}
    for told in ahead.values():
        for value, many in told.items():
            found[value] = found.get(value, 0) + many
    return found


class BigJournalsTest(unittest.TestCase):

    def test_numbers_and_bounds(self):
        greatest = 0
        for machine, watch, journal, run in big_cases():
            total = total_ticks(machine, 8)
            self.assertTrue(fits(machine, watch, journal, run))
            for page, since, until in (('p', 0, None), ('s', 5, 17), ('q', 20, 99)):
                count = counts_from(machine, page, since, until)
                told = ends_by(machine, watch, journal, 0, lambda value, tick, name: value + count(tick, name))
                self.assertEqual(how_many(machine, watch, journal), sum(told.values()))
                greatest = max(greatest, sum(told.values()))
                bounds = (min(told), max(told))
                named = {'since': since, 'until': until}
                self.assertEqual(touches(machine, watch, journal, page, **named), bounds)
                for call, show, value, above in (
                        (fewest, shows_fewest, bounds[0], False), (most, shows_most, bounds[1], True)):
                    found = call(machine, watch, journal, page, **named)
                    self.assertEqual(found[0], value)
                    self.assertTrue(fits(machine, watch, journal, found[1]))
                    self.assertEqual(times(machine, found[1], page, **named), value)
                    self.assertTrue(heights_hold(machine, watch, journal, count, above, value, found[2]))
                    self.assertTrue(show(machine, watch, journal, page, value, found[2], **named))
                    self.assertFalse(show(
                        machine, watch, journal, page, value + (-1 if above else 1), found[2], **named))
                ages = ends_by(machine, watch, journal, total, lambda value, tick, name: (
                    total - 1 - tick if page_of(machine, name) == page else value))
                self.assertEqual(age(machine, watch, journal, page), (min(ages), max(ages)))
                self.assertTrue(min(ages) <= ticks_ago(machine, run, page) <= max(ages))
        self.assertGreater(greatest, 10 ** 10)

    def test_warmer(self):
        words = set()
        for machine, watch, journal, run in big_cases():
            for one, other in (('p', 'q'), ('q', 'p'), ('r', 's')):
                more, less = counts_from(machine, other, 0, None), counts_from(machine, one, 0, None)
                told = ends_by(
                    machine, watch, journal, 0,
                    lambda value, tick, name: value + more(tick, name) - less(tick, name))
                found = warmer(machine, watch, journal, one, other)
                words.add(found[0])
                self.assertEqual(found[0], 'surely' if max(told) <= 0 else 'not')
                self.assertTrue(shows_warmer(machine, watch, journal, one, other, found))
                if found[0] == 'not':
                    self.assertTrue(fits(machine, watch, journal, found[1]))
                    self.assertGreater(times(machine, found[1], other), times(machine, found[1], one))
        self.assertEqual(words, {'surely', 'not'})

    def test_slow(self):
        for machine, watch, journal, run in big_cases():
            chance = random.Random(8)
            sets = tuple(chance.choice(machine.sets) for _ in journal)
            starts = [total_ticks(machine, turn) for turn in range(9)]
            set_at = [sets[turn] for turn in range(8) for _ in range(starts[turn], starts[turn + 1])]
            told = ends_by(machine, watch, journal, 0, lambda value, tick, name: value + (
                page_of(machine, name) is not None and page_of(machine, name) not in set_at[tick]))
            self.assertEqual(slow(machine, watch, journal, sets), (min(told), max(told)))

    def test_where_and_the_least_run(self):
        for machine, watch, journal, run in big_cases():
            least = fitting(machine, watch, journal)
            self.assertTrue(fits(machine, watch, journal, least))
            self.assertLessEqual(least, run)
            for tick in (0, 1, 8, 15, total_ticks(machine, 8) - 1):
                told = ends_by(machine, watch, journal, None, lambda value, at, name: name if at == tick else value)
                self.assertEqual(where(machine, watch, journal, tick), tuple(sorted(told)))

    def test_stuck(self):
        shown = 0
        for machine, watch, journal, run in big_cases():
            for turn in (3, 7):
                if not journal[turn]:
                    continue
                changed = journal[:turn] + (tuple(not mark for mark in journal[turn]),) + journal[turn + 1:]
                found = stuck(machine, watch, changed)
                if found is None:
                    self.assertGreater(how_many(machine, watch, changed), 0)
                    continue
                shown += 1
                self.assertEqual(how_many(machine, watch, changed), 0)
                self.assertGreater(how_many(machine, watch, changed[:found[0] - 1]) if found[0] > 1 else 1, 0)
                self.assertTrue(layers_hold(machine, watch, changed, found))
                self.assertTrue(shows_stuck(machine, watch, changed, found))
        self.assertGreater(shown, 2)

    def test_warmest_of_twelve_ticks(self):
        for machine, watch, journal, run in big_cases():
            if machine.clock == (3,) and watch == (('p',),):
                runs = runs_that_fit(machine, watch, journal[:4])
                wanted = []
                for page in machine.pages:
                    warm = next((run for run in runs if times(machine, run, page) == max(
                        times(machine, run, other) for other in machine.pages)), None)
                    wanted += [(page, warm)] if warm else []
                self.assertEqual(warmest(machine, watch, journal[:4]), tuple(wanted))

    def test_warmest_goes_beyond_twelve_ticks(self):
        machine, watch, journal, run = next(iter(big_cases()))
        for page, least in warmest(machine, watch, journal[:6]):
            self.assertTrue(fits(machine, watch, journal[:6], least))
            self.assertEqual(
                times(machine, least, page), max(times(machine, least, other) for other in machine.pages))


class BigRulesTest(unittest.TestCase):

    def test_rules_of_twelve_states(self):
        chance = random.Random(2)
        for machine, watch, journal, run in big_cases():
            half = made_up(machine, watch, chance, 8)
            whole = doubled(half, chance, 4)
            other = made_up(machine, watch, chance, 12)
            self.assertEqual(half.row(run), whole.row(run))
            self.assertEqual(half.price(run), whole.price(run))
            found = alike(half, whole)
            self.assertEqual(found[0], 'alike')
            self.assertTrue(shows_alike(half, whole, found))
            self.assertTrue(shows_alike(half, other, alike(half, other)))


if __name__ == '__main__':
    unittest.main()
