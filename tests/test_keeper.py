import copy
import random
import unittest

from oracle import WATCHED, marks_that_may_be, numbers_by_turn, runs_by_journal, runs_that_fit, total_ticks, ways_on_with
from rulebook import FOLLOWING, STILL, chasing, doubled, made_up, small_machine, small_watch, some_rules
from samples import ANY_VALUES, EXAMPLE, STEPS, moved
from seldomseen.errors import (
    BadMarks, NoPage, NoState, Nothing, NothingToUndo, OtherMachine, OtherSet, OtherWatch, Stuck, TooLong)
from seldomseen.keeper import Keeper
from seldomseen.machines import Machine
from seldomseen.rules import Rule
from seldomseen.warmth import age, slow, touches, warmest
from seldomseen.watches import seen

PROPERTIES = ('rule', 'number', 'turn', 'now', 'journal', 'sets', 'paid')


def told_by(keeper):
    return tuple(getattr(keeper, name) for name in PROPERTIES)


class Book:
    """What a keeper should tell, kept by hand."""

    def __init__(self, rule):
        self.rule, self.number, self.journal, self.sets, self.moves = rule, 0, (), (rule.machine.first,), 0
        self.past = []

    def copy(self):
        other = Book(self.rule)
        vars(other).update({name: value for name, value in vars(self).items() if name != 'past'})
        return other

    def told(self):
        return (self.rule, self.number, len(self.journal), self.sets[-1], self.journal, self.sets, self.moves)

    def place(self):
        return len(self.journal) % len(self.rule.machine.clock)

    def keep(self, deed):
        self.past.append((deed, {name: value for name, value in vars(self).items() if name != 'past'}))

    def see(self, marks):
        place = self.place()
        self.keep('see')
        self.number = self.rule.states[self.number][2][marks_that_may_be(self.rule.watch, place).index(marks)]
        chosen = self.rule.states[self.number][1]
        self.moves += moved(self.rule.machine, self.sets[-1], chosen)
        self.journal, self.sets = self.journal + (marks,), self.sets + (chosen,)

    def swap(self, rule, number):
        self.keep('swap')
        self.rule, self.number = rule, number

    def undo(self):
        deed, state = self.past.pop()
        vars(self).update(state)
        return deed


def rules_to_keep():
    chance = random.Random(5)
    for machine, watches in WATCHED:
        for watch in watches[:4]:
            yield from some_rules(machine, watch, 1, 3)
    for _ in range(25):
        machine = small_machine(chance, most_ticks=2)
        yield made_up(machine, small_watch(chance, machine), chance, len(machine.clock) + 2)
    yield FOLLOWING
    yield STILL


RULES = list(rules_to_keep())


def may_be_seen(machine, watch, journal):
    """Whether a run fits, by a list of all runs if they are few."""
    if total_ticks(machine, len(journal)) <= 7:
        return bool(runs_that_fit(machine, watch, journal))
    ahead = {(None, ())}
    for turn in range(len(journal)):
        ahead = {after for state in ahead for _, after in ways_on_with(machine, watch, journal, turn, state)}
    return bool(ahead)


def compare_answers(case, keeper, book):
    """The keeper's answers beside the plain functions for its journal."""
    machine, watch, journal = book.rule.machine, book.rule.watch, book.journal
    case.assertEqual(told_by(keeper), book.told())
    if not journal:
        for call in (keeper.warmest, keeper.slow, lambda: keeper.touches(machine.pages[0]), lambda: keeper.age('zz')):
            with case.assertRaises(Nothing) as caught:
                call()
            case.assertIsNone(caught.exception.value)
        return
    for page in machine.pages:
        case.assertEqual(keeper.touches(page), touches(machine, watch, journal, page))
        case.assertEqual(keeper.touches(page=page), keeper.touches(page))
        case.assertEqual(keeper.age(page=page), age(machine, watch, journal, page))
    case.assertEqual(keeper.slow(), slow(machine, watch, journal, book.sets[:-1]))
    if total_ticks(machine, len(journal)) <= 8:
        case.assertEqual(keeper.warmest(), warmest(machine, watch, journal))


class FollowTest(unittest.TestCase):

    def test_beside_a_book_kept_by_hand(self):
        chance = random.Random(12)
        deeds = {}
        for rule in RULES:
            machine, watch = rule.machine, rule.watch
            others = [rule, doubled(rule, chance), made_up(machine, watch, chance, len(machine.clock) + 2)]
            keeper, book = Keeper(rule), Book(rule)
            for _ in range(24):
                before = told_by(keeper)
                way = chance.random()
                if way < 0.55:
                    marks = chance.choice(marks_that_may_be(watch, book.place()))
                    if len(book.journal) == 8:
                        deed = 'long'
                        with self.assertRaises(TooLong) as caught:
                            keeper.see(marks)
                        self.assertEqual(caught.exception.value, 8)
                    elif not may_be_seen(machine, watch, book.journal + (marks,)):
                        deed = 'stuck'
                        with self.assertRaises(Stuck) as caught:
                            keeper.see(marks)
                        self.assertEqual(caught.exception.value, len(book.journal))
                    else:
                        deed = 'see'
                        book.see(marks)
                        self.assertEqual(keeper.see(marks), book.sets[-1])
                elif way < 0.75:
                    other = chance.choice(others)
                    number = chance.randrange(len(other.states))
                    place, chosen, _ = other.states[number]
                    if place != book.place():
                        deed = 'no state'
                        with self.assertRaises(NoState) as caught:
                            keeper.swap(other, number)
                        self.assertEqual(caught.exception.value, number)
                    elif chosen != book.sets[-1]:
                        deed = 'other set'
                        with self.assertRaises(OtherSet) as caught:
                            keeper.swap(other, number)
                        self.assertEqual(caught.exception.value, chosen)
                    else:
                        deed = 'swap'
                        book.swap(other, number)
                        self.assertIsNone(keeper.swap(other, number))
                elif book.past:
                    deed = 'undo ' + book.past[-1][0]
                    self.assertEqual(keeper.undo(), book.undo())
                else:
                    deed = 'nothing'
                    with self.assertRaises(NothingToUndo) as caught:
                        keeper.undo()
                    self.assertIsNone(caught.exception.value)
                deeds[deed] = deeds.get(deed, 0) + 1
                if deed in ('long', 'stuck', 'no state', 'other set', 'nothing'):
                    self.assertEqual(told_by(keeper), before)
                self.assertEqual(told_by(keeper), book.told())
                if chance.random() < 0.15:
                    compare_answers(self, keeper, book)
            compare_answers(self, keeper, book)
            while book.past:
                self.assertEqual(keeper.undo(), book.undo())
                self.assertEqual(told_by(keeper), book.told())
            self.assertEqual(told_by(keeper), told_by(Keeper(rule)))
            with self.assertRaises(NothingToUndo):
                keeper.undo()
        self.assertEqual(len(deeds), 9, deeds)
        self.assertGreater(min(deeds.values()), 3, deeds)

    def test_along_runs(self):
        for rule in RULES[::2]:
            machine = rule.machine
            for turns in (1, 2, 3):
                if total_ticks(machine, turns) > 6:
                    break
                for journal, runs in list(runs_by_journal(machine, rule.watch, turns).items())[:4]:
                    keeper = Keeper(rule)
                    for marks in journal:
                        keeper.see(marks=marks)
                    for run in runs[:4]:
                        self.assertEqual(keeper.journal, seen(machine, rule.watch, run))
                        numbers, _ = numbers_by_turn(rule, run)
                        self.assertEqual(keeper.number, numbers[-1])
                        self.assertEqual(keeper.sets, tuple(rule.states[number][1] for number in numbers))
                        self.assertEqual(keeper.sets[:-1], rule.row(run))

    def test_by_hand(self):
        keeper = Keeper(FOLLOWING)
        self.assertEqual(told_by(keeper), (FOLLOWING, 0, 0, ('p',), (), (('p',),), 0))
        self.assertEqual(keeper.see((True, False)), ('p',))
        self.assertEqual(keeper.see((True, True)), ('q',))
        self.assertEqual(told_by(keeper), (
            FOLLOWING, 1, 2, ('q',), ((True, False), (True, True)), (('p',), ('p',), ('q',)), 1))
        self.assertEqual(keeper.see((True, False)), ('p',))
        self.assertEqual((keeper.paid, keeper.slow()), (2, (3, 3)))
        self.assertEqual(keeper.touches('q'), (1, 1))
        self.assertEqual(keeper.age('q'), (2, 3))
        self.assertEqual(keeper.undo(), 'see')
        self.assertEqual((keeper.paid, keeper.turn, keeper.now), (1, 2, ('q',)))

    def test_eight_turns_and_the_ninth(self):
        keeper = Keeper(FOLLOWING)
        for turn in range(8):
            self.assertEqual(keeper.turn, turn)
            keeper.see((True, False))
        before = told_by(keeper)
        for marks in ((True, False), (False, False)):
            with self.assertRaises(TooLong) as caught:
                keeper.see(marks)
            self.assertEqual(caught.exception.value, 8)
        with self.assertRaises(BadMarks) as caught:
            keeper.see((True,))
        self.assertEqual(caught.exception.value, (True,))
        self.assertEqual(told_by(keeper), before)
        self.assertEqual((keeper.turn, len(keeper.journal), len(keeper.sets)), (8, 8, 9))
        self.assertEqual(keeper.touches('p'), (16, 16))
        # A rule may be exchanged there all the same.
        keeper.swap(FOLLOWING, 0)
        self.assertEqual([keeper.undo() for _ in range(9)], ['swap'] + ['see'] * 8)
        keeper.see((True, True))
        self.assertEqual(keeper.turn, 1)

    def test_marks_that_no_run_has(self):
        keeper = Keeper(FOLLOWING)
        for turn in range(3):
            for marks in ((False, False), (False, True)):
                with self.assertRaises(Stuck) as caught:
                    keeper.see(marks)
                self.assertEqual(caught.exception.value, turn)
                self.assertEqual(keeper.turn, turn)
            keeper.see((True, True))

    def test_a_machine_that_comes_to_an_end(self):
        machine = Machine((('a', 'p', ('b',)), ('b', 'q', ())), (1,), ('p', 'q'), 1, ('p',))
        keeper = Keeper(Rule(machine, ((),), ((0, ('p',), (0,)),)))
        keeper.see(())
        keeper.see(())
        with self.assertRaises(Stuck) as caught:
            keeper.see(())
        self.assertEqual(caught.exception.value, 2)
        self.assertEqual(keeper.age('p'), (1, 1))

    def test_properties_are_read_only(self):
        keeper = Keeper(rule=FOLLOWING)
        keeper.see((True, True))
        before = told_by(keeper)
        for name in PROPERTIES:
            self.assertIsInstance(vars(Keeper)[name], property)
            with self.assertRaises(AttributeError):
                setattr(keeper, name, 0)
            with self.assertRaises(AttributeError):
                delattr(keeper, name)
        self.assertEqual(told_by(keeper), before)
        self.assertEqual([type(part) for part in before], [Rule, int, int, tuple, tuple, tuple, int])


class RaisedTest(unittest.TestCase):

    def raised(self, error, value, call, keeper, *passed):
        before, copied = told_by(keeper), copy.deepcopy(value)
        with self.assertRaises(error) as caught:
            call(*passed)
        self.assertIs(type(caught.exception), error)
        self.assertEqual(caught.exception.value, value)
        self.assertIs(type(caught.exception.value), type(value))
        self.assertEqual(told_by(keeper), before)
        self.assertEqual(value, copied)

    def test_bad_marks(self):
        keeper = Keeper(FOLLOWING)
        for value in ANY_VALUES + ((True,), (True, False, True), (1, 0), (True, 0), (True, None), [True, False], '+-', ('+', '-'),
                                   (True, (False,)), {True: False}):
            self.raised(BadMarks, value, keeper.see, keeper, value)
            with self.assertRaises(BadMarks) as caught:
                keeper.see(value)
            self.assertIs(caught.exception.value, value)

    def test_marks_of_the_place_under_way(self):
        machine, watches = WATCHED[1]
        rule = some_rules(machine, (('q',), (), ('p', 's')), 1, 3)[0]
        keeper = Keeper(rule)
        for good, bad in (((False,), ()), ((), (True,)), ((True, False), (True,)), ((True,), (True, False))):
            self.raised(BadMarks, bad, keeper.see, keeper, bad)
            if may_be_seen(machine, rule.watch, keeper.journal + (good,)):
                keeper.see(good)
        self.assertGreater(keeper.turn, 2)

    def test_swap(self):
        dearer = Machine(STEPS, (2,), ('p', 'q'), 2, ('p',))
        strange = Rule(dearer, (('p',),), ((0, ('p',), (0, 0)),))
        watcher = Rule(EXAMPLE, (('p',),), ((0, ('p',), (0, 0)),))
        keeper = Keeper(FOLLOWING)
        for number in (0, 1, -1, None, 'x'):
            self.raised(OtherMachine, dearer, keeper.swap, keeper, strange, number)
            self.raised(OtherWatch, (('p',),), keeper.swap, keeper, watcher, number)
        for number in ANY_VALUES + (2, -1, 12, True, False, '0', (0,)):
            if type(number) is int and number in (0, 1):
                continue
            self.raised(NoState, number, keeper.swap, keeper, FOLLOWING, number)
        self.raised(OtherSet, ('q',), keeper.swap, keeper, FOLLOWING, 1)
        with self.assertRaises(NothingToUndo):
            keeper.undo()
        keeper.swap(rule=FOLLOWING, number=0)
        self.assertEqual(keeper.undo(), 'swap')

    def test_states_of_another_place(self):
        machine = Machine(STEPS, (1, 2), ('p', 'q'), 1, ('p',))
        rule = Rule(machine, ((), ()), ((0, ('p',), (1,)), (1, ('p',), (0,)), (1, ('q',), (0,))))
        keeper = Keeper(rule)
        self.raised(NoState, 1, keeper.swap, keeper, rule, 1)
        self.raised(NoState, 2, keeper.swap, keeper, rule, 2)
        keeper.swap(rule, 0)
        keeper.see(())
        self.raised(NoState, 0, keeper.swap, keeper, rule, 0)
        self.raised(OtherSet, ('q',), keeper.swap, keeper, rule, 2)
        keeper.swap(rule, 1)
        self.assertEqual([keeper.undo() for _ in range(3)], ['swap', 'see', 'swap'])

    def test_an_equal_machine_is_no_other_one(self):
        same = Machine(STEPS, (2,), ('p', 'q'), 1, ('p',))
        keeper = Keeper(FOLLOWING)
        keeper.swap(Rule(same, FOLLOWING.watch, FOLLOWING.states), 0)
        self.assertEqual(keeper, Keeper(FOLLOWING))

    def test_questions_ahead_of_the_first_see(self):
        keeper = Keeper(FOLLOWING)
        keeper.swap(FOLLOWING, 0)
        for page in ('p', 'r', None, [], 3):
            self.raised(Nothing, None, keeper.touches, keeper, page)
            self.raised(Nothing, None, keeper.age, keeper, page)
        self.raised(Nothing, None, keeper.warmest, keeper)
        self.raised(Nothing, None, keeper.slow, keeper)
        keeper.see((True, True))
        for value in ANY_VALUES + ('r', 'a', 'b', True, ('p',)):
            if value != 'p':
                self.raised(NoPage, value, keeper.touches, keeper, value)
                self.raised(NoPage, value, keeper.age, keeper, value)
        keeper.undo()
        self.raised(Nothing, None, keeper.age, keeper, 'p')


class TrialTest(unittest.TestCase):

    def test_what_is_done_in_a_trial_changes_nothing(self):
        chance = random.Random(3)
        for rule in RULES[::2]:
            machine, watch = rule.machine, rule.watch
            keeper, book = Keeper(rule), Book(rule)
            for _ in range(4):
                marks = chance.choice(marks_that_may_be(watch, book.place()))
                if may_be_seen(machine, watch, book.journal + (marks,)):
                    keeper.see(marks)
                    book.see(marks)
            with keeper.trial() as other:
                self.assertIsNot(other, keeper)
                self.assertEqual(other, keeper)
                self.assertIs(type(other), Keeper)
                with self.assertRaises(NothingToUndo):
                    other.undo()
                inner = book.copy()
                for _ in range(4):
                    marks = chance.choice(marks_that_may_be(watch, inner.place()))
                    if len(inner.journal) < 8 and may_be_seen(machine, watch, inner.journal + (marks,)):
                        other.see(marks)
                        inner.see(marks)
                    with other.trial() as third:
                        self.assertEqual(third, other)
                        if third.turn < 8:
                            try:
                                third.see(marks_that_may_be(watch, inner.place())[-1])
                            except Stuck:
                                pass
                        self.assertEqual(told_by(other), inner.told())
                    self.assertEqual(told_by(other), inner.told())
                    self.assertEqual(told_by(keeper), book.told())
                while inner.past:
                    self.assertEqual(other.undo(), inner.undo())
                with self.assertRaises(NothingToUndo):
                    other.undo()
            self.assertEqual(told_by(keeper), book.told())
            while book.past:
                self.assertEqual(keeper.undo(), book.undo())
            self.assertEqual(told_by(keeper), book.told())

    def test_what_is_done_with_the_keeper_changes_no_trial(self):
        keeper = Keeper(FOLLOWING)
        keeper.see((True, True))
        with keeper.trial() as other:
            keeper.see((True, False))
            keeper.undo()
            keeper.undo()
            self.assertEqual((other.turn, keeper.turn), (1, 0))
            other.see((True, True))
        # It may be used behind the trial, too.
        self.assertEqual(other.see((True, False)), ('p',))
        self.assertEqual((other.turn, keeper.turn), (3, 0))

    def test_an_error_in_a_trial_goes_on(self):
        keeper = Keeper(FOLLOWING)
        with self.assertRaises(Stuck) as caught:
            with keeper.trial() as other:
                other.see((True, True))
                other.see((False, False))
        self.assertEqual(caught.exception.value, 1)
        self.assertEqual(told_by(keeper), told_by(Keeper(FOLLOWING)))

        class Own(Exception):
            pass

        with self.assertRaises(Own):
            with keeper.trial() as other:
                other.see((True, True))
                raise Own()
        self.assertEqual(keeper, Keeper(FOLLOWING))

    def test_trials_one_after_another(self):
        keeper = Keeper(FOLLOWING)
        trial = keeper.trial()
        with trial as one:
            one.see((True, True))
        with trial as other:
            self.assertEqual(other, keeper)
            self.assertNotEqual(one, other)

    def test_tried(self):
        keeper = Keeper(FOLLOWING)
        keeper.see((True, True))
        before = told_by(keeper)
        kept = []

        def look(other):
            kept.append(other)
            self.assertEqual(other, keeper)
            self.assertIsNot(other, keeper)
            with self.assertRaises(NothingToUndo):
                other.undo()
            other.see((True, True))
            return other.tried(lambda third: (third.see((True, False)), other.turn, third.turn))

        self.assertEqual(keeper.tried(look), (('p',), 2, 3))
        self.assertEqual(keeper.tried(look=lambda other: other.touches('p')), keeper.touches('p'))
        self.assertIsNone(keeper.tried(lambda other: None))
        self.assertEqual(told_by(keeper), before)
        self.assertEqual(kept[0].turn, 2)
        self.assertEqual(kept[0].see((True, False)), ('p',))
        self.assertEqual(told_by(keeper), before)
        self.assertEqual(keeper.undo(), 'see')

    def test_looks_that_raise(self):
        keeper = Keeper(FOLLOWING)
        keeper.see((True, True))
        before = told_by(keeper)
        kept = []

        def look(other):
            kept.append(other)
            other.see((True, False))
            other.see((True,))

        with self.assertRaises(BadMarks) as caught:
            keeper.tried(look)
        self.assertEqual(caught.exception.value, (True,))
        self.assertEqual(told_by(keeper), before)
        self.assertEqual((kept[0].turn, kept[0].undo(), kept[0].turn), (2, 'see', 1))
        with self.assertRaises(ZeroDivisionError):
            keeper.tried(lambda other: 1 // 0)
        self.assertEqual(told_by(keeper), before)


class EqualTest(unittest.TestCase):

    def test_by_what_is_now(self):
        one, other = Keeper(FOLLOWING), Keeper(Rule(EXAMPLE, FOLLOWING.watch, FOLLOWING.states))
        self.assertTrue(one == other)
        self.assertFalse(one != other)
        one.see((True, True))
        self.assertFalse(one == other)
        other.see((True, True))
        self.assertTrue(one == other)
        one.undo()
        one.see((True, False))
        self.assertTrue(one != other)
        one.undo()
        one.see((True, True))
        # What may be undone does not matter.
        one.swap(FOLLOWING, 1)
        self.assertTrue(one == other)

    def test_each_part(self):
        # The same journal, sets and number, but another rule; another number; another way to the same set.
        twice = Rule(EXAMPLE, ((),), ((0, ('p',), (1,)), (0, ('p',), (0,))))
        one, other = Keeper(twice), Keeper(twice)
        other.swap(twice, 1)
        self.assertFalse(one == other)
        self.assertFalse(Keeper(STILL) == Keeper(twice))
        back = Rule(EXAMPLE, ((),), ((0, ('p',), (1,)), (0, ('q',), (2,)), (0, ('p',), (2,))))
        goes, stays = Keeper(back), Keeper(back)
        for keeper in (goes, stays):
            keeper.see(())
            keeper.see(())
        self.assertTrue(goes == stays)
        stays.undo()
        stays.undo()
        stays.swap(back, 2)
        stays.see(())
        stays.see(())
        self.assertEqual((goes.rule, goes.number, goes.journal), (stays.rule, stays.number, stays.journal))
        self.assertNotEqual(goes.sets, stays.sets)
        self.assertFalse(goes == stays)
        first, second = Keeper(FOLLOWING), Keeper(FOLLOWING)
        first.see((True, False))
        second.see((True, True))
        second.swap(FOLLOWING, 1)
        self.assertFalse(first == second)

    def test_beside_a_thing_that_is_no_keeper(self):
        keeper = Keeper(FOLLOWING)
        for thing in ANY_VALUES + (FOLLOWING, EXAMPLE, Keeper, object(), told_by(keeper)):
            self.assertIs(keeper == thing, False)
            self.assertIs(thing == keeper, False)
            self.assertIs(keeper != thing, True)


class WholeTest(unittest.TestCase):

    def test_equal_calls_equal_results(self):
        for rule in [chasing(EXAMPLE), FOLLOWING]:
            one, other = Keeper(rule), Keeper(rule)
            for keeper in (one, other):
                keeper.see((True, True))
            for call in (lambda keeper: keeper.touches('p'), lambda keeper: keeper.age('q'), lambda keeper: keeper.warmest(),
                         lambda keeper: keeper.slow(), told_by):
                self.assertEqual(call(one), call(other))
                self.assertEqual(call(one), call(one))

    def test_sizes(self):
        machine, watches = WATCHED[1]
        for watch in watches[:2]:
            rule = some_rules(machine, watch, 1, 9)[0]
            keeper = Keeper(rule)
            run = ('go', 'rest', 'work', 'work', 'go', 'go', 'rest', 'go', 'go', 'rest', 'work', 'rest', 'go', 'go', 'go', 'go')
            for marks in seen(machine, watch, run):
                keeper.see(marks)
            self.assertEqual(keeper.turn, 8)
            least, greatest = keeper.touches('q')
            self.assertTrue(least <= 3 <= greatest)


if __name__ == '__main__':
    unittest.main()
