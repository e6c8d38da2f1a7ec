"""What the guarantees of section 3 promise over several parts of the program together."""

import random
import unittest

from knowledge import WATCHFUL, small_games
from oracle import cases, page_of, runs_that_fit, ticks_ago, times, total_ticks
from rulebook import chasing, doubled, made_up, small_machine, small_watch
from samples import EXAMPLE, MACHINES
from seldomseen import desk, keeper
from seldomseen.bounds import bound, rate, shows_bound, shows_rate
from seldomseen.errors import Stuck, TooMany
from seldomseen.fitting import fitting, how_many, stuck, where
from seldomseen.holding import hold, rule_of, shows_book, shows_posts
from seldomseen.machines import Machine
from seldomseen.prices import best
from seldomseen.rules import Rule, alike, shows_alike
from seldomseen.sparing import sparing
from seldomseen.texts import (
    read_journal, read_machine, read_rule, read_watch, show_journal, show_machine, show_rule, show_watch)
from seldomseen.versus import versus
from seldomseen.warmth import age, touches, warmer, warmest
from seldomseen.watches import coarser, seen
from test_keeper import told_by


def some_whole(many, seed):
    """(machine, watch, rule) of small machines."""
    chance = random.Random(seed)
    for _ in range(many):
        machine = small_machine(chance)
        watch = small_watch(chance, machine)
        yield machine, watch, made_up(machine, watch, chance, len(machine.clock) + chance.randrange(3))


def other_names(thing, names):
    """A value with other names in place of its own."""
    if isinstance(thing, str):
        return names.get(thing, thing)
    if isinstance(thing, tuple):
        return tuple(other_names(part, names) for part in thing)
    return thing


class ThereAndBackTest(unittest.TestCase):

    def test_what_was_read_is_what_was_written(self):
        for machine, watch, rule in some_whole(40, 1):
            again = read_machine(show_machine(machine))
            seen_by = read_watch(again, show_watch(machine, watch))
            other = read_rule(again, seen_by, show_rule(rule))
            self.assertEqual((again, seen_by, other), (machine, watch, rule))
            for run in list(again.runs(5))[:5]:
                self.assertEqual((other.row(run), other.price(run)), (rule.row(run), rule.price(run)))
                self.assertEqual(best(again, run), best(machine, run))
            self.assertEqual(bound(other, 2, 1), bound(rule, 2, 1))
            self.assertIs(shows_bound(other, 2, 1, bound(rule, 2, 1)), True)
            self.assertEqual(alike(rule, other)[0], 'alike')
            self.assertEqual(versus(rule, other, 1, 1)[:2], ('most', 0))

    def test_keepers_and_desks_of_what_was_read(self):
        chance = random.Random(2)
        for machine, watch, rule in some_whole(30, 3):
            one = desk.Desk(keeper.Keeper(rule))
            other = desk.Desk(keeper.Keeper(read_rule(machine, watch, show_rule(rule))))
            for _ in range(7):
                marks = ''.join(chance.choice((' +', ' -')) for _ in watch[one.keeper.turn % len(watch)])
                try:
                    self.assertEqual(one.say('see' + marks), other.say('see' + marks))
                except Stuck:
                    with self.assertRaises(Stuck):
                        other.say('see' + marks)
            self.assertEqual(one.keeper, other.keeper)
            journal = one.keeper.journal
            if journal:
                text = one.say('journal').replace('; ', '\n')
                self.assertEqual(text, show_journal(machine, watch, journal))
                self.assertEqual(read_journal(machine, watch, text), journal)
                self.assertEqual(one.say('slow'), other.say('slow'))
                third = keeper.Keeper(rule)
                for marks in read_journal(machine, watch, text):
                    third.see(marks)
                self.assertEqual(told_by(third), told_by(one.keeper))


class ToldOfJournalsTest(unittest.TestCase):

    def test_what_is_told_is_just_what_holds(self):
        for machine, watch, journal in list(cases(5, 6))[::2]:
            runs = runs_that_fit(machine, watch, journal)
            self.assertEqual(how_many(machine, watch, journal), len(runs))
            self.assertEqual(fitting(machine, watch, journal), runs[0] if runs else None)
            self.assertEqual(stuck(machine, watch, journal) is None, bool(runs))
            for page in machine.pages:
                counts, ages = [times(machine, run, page) for run in runs], [ticks_ago(machine, run, page) for run in runs]
                self.assertEqual(touches(machine, watch, journal, page), (min(counts), max(counts)) if runs else None)
                self.assertEqual(age(machine, watch, journal, page), (min(ages), max(ages)) if runs else None)
                for other in machine.pages:
                    surely = all(times(machine, run, page) >= times(machine, run, other) for run in runs)
                    self.assertEqual(warmer(machine, watch, journal, page, other)[0] == 'surely', surely)
            self.assertEqual(
                where(machine, watch, journal, total_ticks(machine, len(journal)) - 1), tuple(sorted({run[-1] for run in runs})))

    def test_keepers_tell_it_too(self):
        for machine, watch, journal in list(cases(5, 6))[::5]:
            rule = Rule(machine, watch, tuple(
                (place, machine.first, ((place + 1) % len(watch),) * (1 << len(watch[place]))) for place in range(len(watch))))
            kept = keeper.Keeper(rule)
            try:
                for marks in journal:
                    kept.see(marks)
            except Stuck as error:
                k, layers = stuck(machine, watch, journal)
                self.assertEqual(error.value, k - 1)
                self.assertEqual(kept.journal, journal[:k - 1])
                continue
            runs = runs_that_fit(machine, watch, journal)
            for run in runs[:5]:
                self.assertEqual(seen(machine, watch, run), kept.journal)
                least, greatest = kept.slow()
                slow = sum(page_of(machine, name) not in (None,) + machine.first for name in run)
                self.assertTrue(least <= slow <= greatest)
            self.assertEqual(kept.warmest(), warmest(machine, watch, journal))


class HeldTest(unittest.TestCase):

    def test_rules_of_posts_are_bounded(self):
        bounded = 0
        for machine, watch, a, b in small_games(50, 8):
            try:
                found = hold(machine, watch, a, b, 5)
            except TooMany:
                continue
            if found[0] == 'holds' and len(found[2]) <= 12:
                rule = rule_of(machine, watch, found[2])
                told = bound(rule, a, b)
                self.assertEqual(told[0], 'most')
                self.assertLessEqual(told[1], found[1])
                bounded += 1
                rated = rate(rule)
                self.assertIsNotNone(rated)
                self.assertLessEqual(rated[0] * b, a * rated[1])
                self.assertIs(shows_rate(rule, rated), True)
                text = show_rule(rule)
                self.assertEqual(bound(read_rule(machine, watch, text), a, b), told)
        self.assertGreater(bounded, 20)

    def test_what_a_watch_cannot_hold_no_coarser_one_can(self):
        broken = 0
        for machine, a, b, least, blind in WATCHFUL:
            everything, nothing = (machine.pages,) * len(machine.clock), ((),) * len(machine.clock)
            chance = random.Random(1)
            watches = [everything, nothing] + [small_watch(chance, machine) for _ in range(4)]
            told = []
            for watch in watches:
                try:
                    told.append((watch, hold(machine, watch, a, b, least)))
                except TooMany:
                    pass
            self.assertEqual(hold(machine, everything, a, b, least)[:2], ('holds', least))
            for one, found in told:
                for other, beside in told:
                    if coarser(machine, one, other) and beside[0] == 'breaks':
                        broken += 1
                        self.assertEqual(found[0], 'breaks')
                    if coarser(machine, one, other) and found[0] == beside[0] == 'holds':
                        self.assertGreaterEqual(found[1], beside[1])
            if blind is None:
                self.assertEqual(hold(machine, nothing, a, b, 3)[0], 'breaks')
            else:
                self.assertEqual(hold(machine, nothing, a, b, 3)[:2], ('holds', blind))
        self.assertGreater(broken, 10)

    def test_the_cheapest_watch_holds_it(self):
        for machine, a, b, least, _ in WATCHFUL:
            everything = (machine.pages,) * len(machine.clock)
            found = sparing(machine, everything, (1,) * len(machine.pages), a, b, least)
            self.assertEqual(found[0], 'watch')
            self.assertIs(shows_posts(machine, found[2], a, b, least, found[3]), True)
            self.assertGreater(found[1], 0)
            for watch, book in found[4]:
                self.assertIs(shows_book(machine, watch, a, b, least, book), True)
            if len(found[3]) <= 12:
                rule = rule_of(machine, found[2], found[3])
                self.assertLessEqual(bound(rule, a, b)[1], least)


class OtherNamesTest(unittest.TestCase):

    NAMES = {**{letter: 's' + letter for letter in 'abcdefgh'}, **{letter: 'z' + letter for letter in 'pqrs'}}

    def renamed(self, machine):
        parts = (machine.steps, machine.clock, machine.pages, machine.move, machine.first)
        return Machine(*other_names(parts, self.NAMES))

    def test_nothing_but_the_names_changes(self):
        chance = random.Random(7)
        for machine, watch, rule in some_whole(30, 5):
            other, seen_by = self.renamed(machine), other_names(watch, self.NAMES)
            beside = Rule(other, seen_by, other_names(rule.states, self.NAMES))
            for length in (1, 3, 4):
                runs = list(machine.runs(length))
                self.assertEqual(other_names(tuple(runs), self.NAMES), tuple(other.runs(length)))
                for run in runs[:4]:
                    named = other_names(run, self.NAMES)
                    self.assertEqual(other_names(best(machine, run), self.NAMES), best(other, named))
                    self.assertEqual(other_names(rule.row(run), self.NAMES), beside.row(named))
            for a, b in ((1, 1), (7, 2)):
                self.assertEqual(other_names(bound(rule, a, b), self.NAMES), bound(beside, a, b))
            self.assertEqual(other_names(rate(rule), self.NAMES), rate(beside))
            twice = doubled(rule, chance)
            also = Rule(other, seen_by, other_names(twice.states, self.NAMES))
            self.assertEqual(other_names(alike(rule, twice), self.NAMES), alike(beside, also))
            self.assertEqual(other_names(versus(rule, twice, 1, 2), self.NAMES), versus(beside, also, 1, 2))
            run = next(machine.runs(total_ticks(machine, 1)), None)
            if run is not None:
                journal = seen(machine, watch, run)
                for page in machine.pages:
                    self.assertEqual(touches(machine, watch, journal, page),
                                     touches(other, seen_by, journal, self.NAMES[page]))
                self.assertEqual(other_names(warmest(machine, watch, journal), self.NAMES), warmest(other, seen_by, journal))

    def test_what_can_be_held(self):
        for machine, a, b, least, _ in WATCHFUL:
            other = self.renamed(machine)
            watch = (machine.pages[:1],) * len(machine.clock)
            named = other_names(watch, self.NAMES)
            try:
                found = hold(machine, watch, a, b, least)
            except TooMany:
                with self.assertRaises(TooMany):
                    hold(other, named, a, b, least)
                continue
            self.assertEqual(other_names(found, self.NAMES), hold(other, named, a, b, least))
            if machine.clock == (1,):
                prices = tuple(range(1, len(machine.pages) + 1))
                self.assertEqual(other_names(sparing(machine, (machine.pages,), prices, a, b, least), self.NAMES),
                                 sparing(other, (other.pages,), prices, a, b, least))


class EqualCallsTest(unittest.TestCase):

    def test_equal_machines_made_twice(self):
        for machine in MACHINES:
            same = Machine(machine.steps, machine.clock, machine.pages, machine.move, machine.first)
            if len(machine.sets) * len(machine.clock) <= 12:
                one, other = chasing(machine), chasing(same)
                self.assertEqual(one, other)
                for a, b in ((1, 1), (9, 1)):
                    self.assertEqual(bound(one, a, b), bound(other, a, b))
                self.assertIs(shows_alike(one, other, alike(one, other)), True)
        self.assertEqual(hold(EXAMPLE, ((),), 1, 1, 3), hold(EXAMPLE, ((),), 1, 1, 3))


if __name__ == '__main__':
    unittest.main()
