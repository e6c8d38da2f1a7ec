import copy
import random
import unittest

from oracle import WATCHED, marks_that_may_be
from rulebook import FOLLOWING, STILL, made_up, small_machine, small_watch, some_rules
from samples import ANY_VALUES, EXAMPLE
from seldomseen.bounds import bound
from seldomseen.desk import Desk
from seldomseen.errors import (
    BadLine, BadMarks, BadWeight, NoPage, Nothing, NothingToUndo, SeldomError, Stuck, TooLong)
from seldomseen.keeper import Keeper
from seldomseen.rules import Rule
from seldomseen.texts import read_journal, show_journal
from test_bounds import ROUND_STILL, SHORT_STILL
from test_keeper import told_by


def answered(call, *passed):
    try:
        return call(*passed)
    except SeldomError as error:
        return (type(error), error.value)


def span(pair):
    return '{}..{}'.format(*pair)


def asked(keeper, line):
    """What a line stands for, asked of the keeper itself."""
    word, *rest = line.split(' ')
    if word == 'see':
        return ' '.join(keeper.see(tuple(mark == '+' for mark in rest)))
    if word == 'undo':
        return keeper.undo()
    if word == 'set':
        return ' '.join(keeper.now)
    if word in ('turn', 'paid'):
        return str(getattr(keeper, word))
    if word in ('touches', 'age'):
        return span(getattr(keeper, word)(rest[0]))
    if word == 'slow':
        return span(keeper.slow())
    if word == 'warmest':
        return ' '.join(page for page, _ in keeper.warmest())
    if word == 'journal':
        if not keeper.journal:
            return '-'
        return show_journal(keeper.rule.machine, keeper.rule.watch, keeper.journal).replace('\n', '; ')
    told = bound(keeper.rule, int(rest[0]), int(rest[1]))
    return 'grows' if told[0] == 'grows' else 'most ' + str(told[1])


def some_line(chance, machine, watch, turn):
    marks = chance.choice(marks_that_may_be(watch, turn))
    return chance.choice(
        ['see' + ''.join(' +' if mark else ' -' for mark in marks)] * 6
        + ['undo', 'set', 'turn', 'paid', 'slow', 'warmest', 'journal', 'see', 'see +', 'see - + -']
        + [f'{word} {page}' for word in ('touches', 'age') for page in (chance.choice(machine.pages), 'zz')]
        + [f'bound {chance.randrange(-1, 12)} {chance.randrange(1, 10)}', 'bound 1 1'])


class SayTest(unittest.TestCase):

    def test_the_example(self):
        desk = Desk(Keeper(Rule(EXAMPLE, (('p',),), ((0, ('p',), (0, 0)),))))
        lines = ['see +', 'touches q', 'age p', 'warmest', 'slow', 'journal', 'undo']
        self.assertEqual([desk.say(line) for line in lines], ['p', '0..1', '0..1', 'p q', '0..1', 'seen +', 'see'])

    def test_beside_the_calls(self):
        chance = random.Random(11)
        rules = [some_rules(machine, watch, 1, 2)[0] for machine, watches in WATCHED for watch in watches[:3]]
        for _ in range(20):
            machine = small_machine(chance, most_ticks=2)
            rules.append(made_up(machine, small_watch(chance, machine), chance, len(machine.clock) + 1))
        words, errors = set(), set()
        for rule in rules:
            machine, watch = rule.machine, rule.watch
            keeper, beside = Keeper(rule), Keeper(rule)
            desk = Desk(keeper)
            self.assertIs(desk.keeper, keeper)
            for _ in range(25):
                line = some_line(chance, machine, watch, keeper.turn)
                before = told_by(keeper)
                found, wanted = answered(desk.say, line), answered(asked, beside, line)
                self.assertEqual(found, wanted, line)
                self.assertEqual(told_by(keeper), told_by(beside))
                if type(found) is str:
                    words.add(line.split(' ')[0])
                else:
                    errors.add(found[0])
                    self.assertEqual(told_by(keeper), before)
        self.assertEqual(len(words), 11, words)
        self.assertLessEqual({BadMarks, Stuck, Nothing, NoPage, NothingToUndo, BadWeight}, errors)

    def test_each_line_by_hand(self):
        desk = Desk(Keeper(FOLLOWING))
        for line, wanted in (
                ('journal', '-'), ('set', 'p'), ('turn', '0'), ('paid', '0'), ('see + -', 'p'), ('see + +', 'q'), ('set', 'q'),
                ('turn', '2'), ('paid', '1'), ('journal', 'seen + -; seen + +'), ('touches p', '3..3'), ('touches q', '1..1'),
                ('age q', '0..1'), ('age p', '0..1'), ('slow', '1..1'), ('warmest', 'p'), ('see + -', 'p'), ('undo', 'see'),
                ('bound 1 1', 'grows'), ('bound 9 1', 'most 0'), ('undo', 'see'), ('undo', 'see'), ('journal', '-')):
            self.assertEqual(desk.say(line=line), wanted, line)

    def test_bounds(self):
        desk = Desk(Keeper(STILL))
        self.assertEqual(desk.say('bound 1 1'), 'most 0')
        self.assertEqual(desk.say('bound 1 9'), 'grows')
        self.assertEqual(desk.say('bound 9 9'), 'most 0')
        self.assertEqual(Desk(Keeper(ROUND_STILL)).say('bound 9 1'), 'most -8')
        self.assertEqual(Desk(Keeper(SHORT_STILL)).say('bound 1 9'), 'most 25')
        for line, value in (('bound 0 1', 0), ('bound 1 0', 0), ('bound 10 1', 10), ('bound -1 99', -1), ('bound 9 10', 10),
                            ('bound 123456789012345678 1', 123456789012345678)):
            with self.assertRaises(BadWeight) as caught:
                desk.say(line)
            self.assertEqual(caught.exception.value, value)

    def test_the_rule_now(self):
        keeper = Keeper(FOLLOWING)
        desk = Desk(keeper)
        still = Rule(EXAMPLE, FOLLOWING.watch, ((0, ('p',), (0, 0, 0, 0)),))
        self.assertEqual(desk.say('bound 1 1'), 'grows')
        keeper.swap(still, 0)
        self.assertEqual(desk.say('bound 1 1'), 'most 0')
        self.assertEqual(desk.say('undo'), 'swap')
        self.assertEqual(desk.say('bound 1 1'), 'grows')

    def test_marks_where_there_are_none(self):
        desk = Desk(Keeper(STILL))
        self.assertEqual([desk.say('see'), desk.say('see'), desk.say('journal')], ['p', 'p', 'seen; seen'])
        text = desk.say('journal').replace('; ', '\n')
        self.assertEqual(read_journal(EXAMPLE, ((),), text), desk.keeper.journal)
        with self.assertRaises(BadMarks) as caught:
            desk.say('see + -')
        self.assertEqual(caught.exception.value, (True, False))

    def test_sets_of_several_pages(self):
        machine, watches = WATCHED[1]
        desk = Desk(Keeper(some_rules(machine, watches[0], 1, 2)[0]))
        self.assertEqual(desk.say('set'), 'p r')
        self.assertEqual(desk.say('see'), ' '.join(desk.keeper.now))
        self.assertEqual(len(desk.say('set').split(' ')), 2)

    def test_the_keeper_is_shared(self):
        keeper = Keeper(rule=FOLLOWING)
        one, other = Desk(keeper=keeper), Desk(keeper)
        one.say('see + +')
        self.assertEqual((other.say('turn'), keeper.turn), ('1', 1))
        keeper.undo()
        self.assertEqual(one.say('turn'), '0')
        self.assertIs(one.keeper, other.keeper)


class RaisedTest(unittest.TestCase):

    BAD = (
        '', ' ', '+', '-', 'see+', 'see ', ' see', 'see  +', 'see + ', 'see ++', 'see *', 'see True', 'see 1', 'see p', 'See', 'seen +',
        'undo ', ' undo', 'undo 1', 'undo undo', 'Undo', 'set p', 'set ', 'sets', 'turn 1', 'turn\n', 'paid 0', 'pay', 'touches',
        'touches ', 'touches P', 'touches p q', 'touches  p', 'touches -', 'touches 1', 'touches abcdefghi', 'touches p ', 'touch p',
        'age', 'age 1', 'age p p', 'age P', 'age abcdefghi', 'slow p', 'slow ', 'warmest p', 'warm', 'journal ', 'journal -', 'bound',
        'bound 1', 'bound 1 1 1', 'bound 1 ', 'bound  1 1', 'bound +1 1', 'bound 01 1', 'bound 1 01', 'bound -0 1', 'bound 1 -0',
        'bound a 1', 'bound 1 b', 'bound 1234567890123456789 1', 'bound 1 1234567890123456789', 'bound 1.0 1', 'bounds 1 1',
        'Bound 1 1', 'see\n+', 'see\t+', 'undo\nundo', 'number', 'rule', 'sets', 'swap 0', 'p', 'touches\np', 'turn paid')

    def raised(self, desk, error, value, line):
        before, copied = told_by(desk.keeper), copy.deepcopy(line)
        with self.assertRaises(error) as caught:
            desk.say(line)
        self.assertIs(type(caught.exception), error)
        self.assertEqual(caught.exception.value, value)
        self.assertEqual(told_by(desk.keeper), before)
        self.assertEqual(line, copied)

    def test_lines_of_no_form(self):
        for desk in (Desk(Keeper(FOLLOWING)), Desk(Keeper(STILL))):
            for line in self.BAD + ANY_VALUES + (b'undo', ['undo'], ('undo',), ('see', '+')):
                self.raised(desk, BadLine, line, line)
                with self.assertRaises(BadLine) as caught:
                    desk.say(line)
                self.assertIs(caught.exception.value, line)
            desk.say('see' if desk.keeper.rule == STILL else 'see + +')

    def test_errors_of_the_calls(self):
        desk = Desk(Keeper(FOLLOWING))
        for line, error, value in (
                ('undo', NothingToUndo, None), ('touches p', Nothing, None), ('touches zz', Nothing, None), ('age p', Nothing, None),
                ('slow', Nothing, None), ('warmest', Nothing, None), ('see', BadMarks, ()), ('see +', BadMarks, (True,)),
                ('see + - -', BadMarks, (True, False, False)), ('see - -', Stuck, 0), ('bound 0 0', BadWeight, 0)):
            self.raised(desk, error, value, line)
        for _ in range(8):
            desk.say('see + -')
        for line, error, value in (
                ('touches zz', NoPage, 'zz'), ('age a', NoPage, 'a'), ('see + -', TooLong, 8), ('see - -', TooLong, 8),
                ('see', BadMarks, ())):
            self.raised(desk, error, value, line)

    def test_the_keeper_is_read_only(self):
        desk = Desk(Keeper(FOLLOWING))
        with self.assertRaises(AttributeError):
            desk.keeper = Keeper(STILL)
        self.assertEqual(desk.keeper, Keeper(FOLLOWING))


if __name__ == '__main__':
    unittest.main()
