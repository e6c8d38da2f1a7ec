import copy
import random
import re
import unittest

from oracle import WATCHED, journals_of
from rulebook import FOLLOWING, STILL, chasing, made_up, small_machine, small_watch
from samples import ANY_VALUES, CHEAP, DEAR, EXAMPLE, FREE, MIXED, STEPS
from seldomseen.errors import (
    BadClock, BadJournal, BadMove, BadPages, BadSet, BadStates, BadSteps, BadText, BadWatch, SeldomError)
from seldomseen.machines import Machine
from seldomseen.rules import Rule
from seldomseen.texts import (
    read_journal, read_machine, read_rule, read_watch, show_journal, show_machine, show_rule, show_watch)

NAME, NUMBER = '[a-z]{1,8}', '(?!-0(?![0-9]))-?(?:0|[1-9][0-9]{0,17})'
FORMS = {
    'step': f'step ({NAME}) ({NAME}|-) >((?: {NAME})*)', 'clock': f'clock ({NUMBER}(?: {NUMBER})*)',
    'pages': f'pages ({NAME}(?: {NAME})*)', 'move': f'move ({NUMBER})', 'first': f'first ({NAME}(?: {NAME})*)',
    'watch': f'watch (-|{NAME}(?: {NAME})*)', 'seen': 'seen((?: [+-])*)',
    'state': f'state ({NUMBER}) ({NAME}(?: {NAME})*) > ({NUMBER}(?: {NUMBER})*)'}
SORTS = {'machine': ['step+', 'clock', 'pages', 'move', 'first'], 'watch': ['watch+'], 'journal': ['seen+'], 'rule': ['state+']}


def has_form(line, sort):
    return re.fullmatch(FORMS[sort], line)


def first_bad_line(text, kind):
    """The number that BadText tells, None for a text whose lines all have their form."""
    if type(text) is not str:
        return 0
    sorts, at = list(SORTS[kind]), 0
    lines = text.split('\n')
    seen_one = False
    for number, line in enumerate(lines):
        while True:
            if not sorts:
                return number
            sort = sorts[0].rstrip('+')
            if has_form(line, sort):
                seen_one = sorts[0].endswith('+')
                if not seen_one:
                    sorts.pop(0)
                break
            if not seen_one:
                return number
            sorts.pop(0)
            seen_one = False
        at = number + 1
    if sorts and seen_one:
        sorts.pop(0)
    return at if sorts else None


def words(text):
    return tuple(text.split())


def told(text, kind):
    """What a text of a right form tells."""
    found = {}
    for line in text.split('\n'):
        sort = line.split(' ')[0]
        parts = re.fullmatch(FORMS[sort], line).groups()
        if sort == 'step':
            value = (parts[0], None if parts[1] == '-' else parts[1], words(parts[2]))
        elif sort == 'clock':
            value = tuple(map(int, words(parts[0])))
        elif sort == 'move':
            value = int(parts[0])
        elif sort in ('pages', 'first'):
            value = words(parts[0])
        elif sort == 'watch':
            value = () if parts[0] == '-' else words(parts[0])
        elif sort == 'seen':
            value = tuple(word == '+' for word in words(parts[0]))
        else:
            value = (int(parts[0]), words(parts[1]), tuple(map(int, words(parts[2]))))
        found.setdefault(sort, []).append(value)
    if kind == 'machine':
        return (tuple(found['step']), found['clock'][0], found['pages'][0], found['move'][0], found['first'][0])
    return tuple(list(found.values())[0])


def outcome(call, *passed):
    """(error's class, value), or what is returned."""
    try:
        return call(*passed)
    except SeldomError as error:
        return (type(error), error.value)


def wanted_outcome(kind, text, machine=None, watch=None):
    line = first_bad_line(text, kind)
    if line is not None:
        return (BadText, line)
    parts = told(text, kind)
    if kind == 'machine':
        return outcome(Machine, *parts)
    if kind == 'watch':
        return outcome(lambda: Rule(machine, parts, 'x')) if outcome(Rule, machine, parts, 'x')[0] is BadWatch else parts
    if kind == 'rule':
        return outcome(Rule, machine, watch, parts)
    good = 1 <= len(parts) <= 8 and all(len(marks) == len(watch[k % len(watch)]) for k, marks in enumerate(parts))
    return parts if good else (BadJournal, parts)


def read(kind, text, machine=None, watch=None):
    if kind == 'machine':
        return outcome(read_machine, text)
    if kind == 'watch':
        return outcome(read_watch, machine, text)
    return outcome(read_journal if kind == 'journal' else read_rule, machine, watch, text)


def machines():
    chance = random.Random(4)
    odd = Machine(
        (('step', 'clock', ('first', 'step')), ('first', 'move', ('state', 'step')), ('state', None, ('first',))), (1, 2),
        ('clock', 'move', 'pages', 'watch'), 9, ('clock', 'watch'))
    yield from (EXAMPLE, MIXED, FREE, DEAR, CHEAP, odd)
    for _ in range(25):
        yield small_machine(chance)


def shown_things():
    """(kind, thing, text, machine, watch) of all that can be shown."""
    chance = random.Random(6)
    for machine in machines():
        yield 'machine', machine, show_machine(machine), None, None
        nothing, everything = ((),) * len(machine.clock), (machine.pages,) * len(machine.clock)
        for watch in (small_watch(chance, machine), nothing, everything):
            yield 'watch', watch, show_watch(machine, watch), machine, None
            for turns in (1, 3, 8):
                journal = tuple(chance.choice(journals_of(watch[k % len(watch):] + watch, 1))[0] for k in range(turns))
                yield 'journal', journal, show_journal(machine, watch, journal), machine, watch
            rule = made_up(machine, watch, chance, len(machine.clock) + 3)
            yield 'rule', rule, show_rule(rule), machine, watch


SHOWN = list(shown_things())


class ShowTest(unittest.TestCase):

    def test_by_hand(self):
        self.assertEqual(show_machine(EXAMPLE), 'step a p > a b\nstep b q > a\nclock 2\npages p q\nmove 1\nfirst p')
        self.assertEqual(
            show_machine(MIXED),
            'step go p > end go rest\nstep rest - > go work\nstep work q > go rest work\nstep end s >\nclock 1 3 2\n'
            'pages p q r s\nmove 2\nfirst p r')
        self.assertEqual(show_watch(MIXED, (('q',), (), ('p', 's'))), 'watch q\nwatch -\nwatch p s')
        self.assertEqual(show_watch(EXAMPLE, ((),)), 'watch -')
        self.assertEqual(show_journal(MIXED, (('q',), (), ('p', 's')), ((True,), (), (False, True), (False,))),
                         'seen +\nseen\nseen - +\nseen -')
        self.assertEqual(show_journal(EXAMPLE, ((),), ((),)), 'seen')
        self.assertEqual(show_rule(FOLLOWING), 'state 0 p > 0 1 0 1\nstate 0 q > 1 1 0 0')
        self.assertEqual(show_rule(STILL), 'state 0 p > 0')
        two = Rule(FREE, ((), ()), ((0, ('b',), (1,)), (1, ('c',), (0,))))
        self.assertEqual(show_rule(two), 'state 0 b > 1\nstate 1 c > 0')

    def test_shown_and_read_again(self):
        for kind, thing, text, machine, watch in SHOWN:
            self.assertIs(type(text), str)
            again = read(kind, text, machine, watch)
            self.assertEqual(again, thing)
            self.assertIs(type(again), type(thing))
            self.assertIsNone(first_bad_line(text, kind))
            for line in text.split('\n'):
                self.assertEqual(line, ' '.join(line.split()))
            if kind == 'machine':
                self.assertEqual(show_machine(again), text)
                self.assertEqual((again.names, again.sets), (thing.names, thing.sets))
            elif kind == 'watch':
                self.assertEqual(show_watch(machine, again), text)
            elif kind == 'journal':
                self.assertEqual(show_journal(machine, watch, again), text)
                self.assertEqual(repr(again), repr(thing))
            else:
                self.assertEqual(show_rule(again), text)
                self.assertEqual((again.machine, again.watch, again.states), (machine, watch, thing.states))

    def test_by_name(self):
        text = show_machine(machine=EXAMPLE)
        self.assertEqual(read_machine(text=text), EXAMPLE)
        watch = (('p', 'q'),)
        self.assertEqual(read_watch(machine=EXAMPLE, text=show_watch(machine=EXAMPLE, watch=watch)), watch)
        journal = ((True, False),)
        text = show_journal(machine=EXAMPLE, watch=watch, journal=journal)
        self.assertEqual(read_journal(machine=EXAMPLE, watch=watch, text=text), journal)
        self.assertEqual(read_rule(machine=EXAMPLE, watch=watch, text=show_rule(rule=FOLLOWING)), FOLLOWING)

    def test_twelve_states_and_eight_steps(self):
        ring = Rule(EXAMPLE, ((),), tuple((0, ('p',), ((k + 1) % 12,)) for k in range(12)))
        self.assertEqual(read_rule(EXAMPLE, ((),), show_rule(ring)), ring)
        self.assertIn('state 0 p > 11', show_rule(ring))
        names = 'abcdefgh'
        machine = Machine(tuple((name * 8, 'pppppppp', (names[0] * 8,)) for name in names), (3, 3, 3), ('pppppppp', 'q'), 0, ('q',))
        self.assertEqual(read_machine(show_machine(machine)), machine)


class BadTextTest(unittest.TestCase):

    TEXTS = {
        'machine': 'step a p > a b\nstep b - >\nclock 2 1\npages p q r\nmove 1\nfirst p q',
        'watch': 'watch p q\nwatch -\nwatch q', 'journal': 'seen + -\nseen\nseen -', 'rule': 'state 0 p q > 0 1\nstate 1 q > -1'}

    def both(self, kind, text):
        """What is read, for the machine and watch of MIXED where they are asked for."""
        machine, watch = MIXED, (('p', 'q'), (), ('q',))
        found = read(kind, text, machine, watch)
        self.assertEqual(found, wanted_outcome(kind, text, machine, watch), (kind, text))
        if type(found) is tuple and found and found[0] is BadText:
            self.assertIs(type(found[1]), int)
            return found[1]
        return None

    def test_the_example(self):
        with self.assertRaises(BadText) as caught:
            read_machine('step a p > b')
        self.assertEqual(caught.exception.value, 1)

    def test_no_strings(self):
        for value in ANY_VALUES + (3, ['watch p'], ('watch p',), {'watch': 'p'}):
            if type(value) is str:
                continue
            before = copy.deepcopy(value)
            for kind in SORTS:
                self.assertEqual(self.both(kind, value), 0)
            self.assertEqual(value, before)

    def test_any_string(self):
        for value in ANY_VALUES:
            if type(value) is str:
                for kind in SORTS:
                    self.assertEqual(self.both(kind, value), 0)

    def test_lines_left_out_doubled_or_out_of_order(self):
        for kind, text in self.TEXTS.items():
            self.assertIsNone(self.both(kind, text))
            lines = text.split('\n')
            for at in range(len(lines)):
                self.both(kind, '\n'.join(lines[:at] + lines[at + 1:]))
                self.both(kind, '\n'.join(lines[:at] + lines[at:at + 1] * 2 + lines[at + 1:]))
                self.both(kind, '\n'.join(lines[:at]))
                self.both(kind, '\n'.join(lines[at:]))
                self.both(kind, '\n'.join(lines[:at] + [''] + lines[at:]))
                for other in range(len(lines)):
                    swapped = list(lines)
                    swapped[at], swapped[other] = swapped[other], swapped[at]
                    self.both(kind, '\n'.join(swapped))
                for strange in ('step a p > a', 'clock 1', 'pages p', 'move 1', 'first p', 'watch p', 'seen +', 'state 0 p > 0', 'x',
                                '-', '>', '0', ' ', '\t'):
                    self.both(kind, '\n'.join(lines[:at] + [strange] + lines[at:]))
                    self.both(kind, '\n'.join(lines[:at] + [strange] + lines[at + 1:]))
                    self.both(kind, '\n'.join(lines + [strange]))

    def test_numbers_of_lines_by_hand(self):
        machine = self.TEXTS['machine']
        lines = machine.split('\n')
        self.assertEqual(self.both('machine', ''), 0)
        self.assertEqual(self.both('machine', lines[0]), 1)
        self.assertEqual(self.both('machine', '\n'.join(lines[:5])), 5)
        self.assertEqual(self.both('machine', '\n'.join(lines[2:])), 0)
        self.assertEqual(self.both('machine', machine + '\n'), 6)
        self.assertEqual(self.both('machine', '\n' + machine), 0)
        self.assertEqual(self.both('machine', machine + '\nfirst p'), 6)
        self.assertEqual(self.both('machine', machine + '\nstep a p >'), 6)
        self.assertEqual(self.both('machine', '\n'.join(lines[:3] + lines[2:])), 3)
        self.assertEqual(self.both('machine', '\n'.join(lines[:3] + lines[4:])), 3)
        self.assertEqual(self.both('machine', '\n'.join(lines[:3] + lines[:1] + lines[3:])), 3)
        self.assertEqual(self.both('machine', 'clock x\n' + machine), 0)
        self.assertEqual(self.both('watch', ''), 0)
        self.assertEqual(self.both('watch', 'watch p\n'), 1)
        self.assertEqual(self.both('watch', 'watch p\nwatch\nwatch P'), 1)
        self.assertEqual(self.both('journal', 'seen +\nseen *'), 1)
        self.assertEqual(self.both('rule', 'state 0 p > 0\nstate 0 p >'), 1)

    def test_forms_of_each_line(self):
        good = {
            'step': ('step a p > a', 'step a - >', 'step a - > a b c d e f g h i', 'step abcdefgh p > p', 'step step step > step'),
            'clock': ('clock 0', 'clock -1 2', 'clock 999999999999999999', 'clock -999999999999999999 1 2 3 4 5 6'),
            'pages': ('pages p', 'pages q p p', 'pages pages a b c d e f g h'),
            'move': ('move 0', 'move -5', 'move 10', 'move 123456789012345678'),
            'first': ('first p', 'first a b c d e', 'first first'),
            'watch': ('watch -', 'watch p', 'watch q p', 'watch watch'),
            'seen': ('seen', 'seen +', 'seen - -', 'seen + - + - + - + -'),
            'state': ('state 0 p > 0', 'state -1 p > -1', 'state 99 q p > 5 5 5', 'state 0 state > 0')}
        bad = {
            'step': ('step', 'step a', 'step a p', 'step a p a', 'step a p > >', 'step a > p', 'step - p >', 'step a p q > a',
                     'step A p > a', 'step a P > a', 'step a p > A', 'step abcdefghi p > a', 'step a abcdefghi > a', 'step a p > -',
                     'step  a p > a', 'step a p > a ', ' step a p > a', 'step a p >  a', 'step\ta p > a', 'Step a p > a', 'steps a p > a',
                     'step a p >a', 'step a p> a', 'step a 0 > a', 'step a p > 0', 'step a p < a', 'step a p > a, b', 'step a -- >',
                     'step a1 p >', 'step a None >'),
            'clock': ('clock', 'clock ', 'clock +1', 'clock 01', 'clock 00', 'clock -0', 'clock --1', 'clock 1.0', 'clock a', 'clock 1  2',
                      'clock 1 2 ', ' clock 1', 'clock -', 'clock 1234567890123456789', 'clock -1234567890123456789', 'clock 1,2',
                      'clock -01', 'Clock 1', 'clock 1e1', 'clock 0x1', 'clock 1_0', 'clock 1 -', 'clock 1x', 'clock x1', 'clock 1a'),
            'pages': ('pages', 'pages ', 'pages -', 'pages 1', 'pages P', 'pages p  q', 'pages abcdefghi', 'page p', 'pages p,q'),
            'move': ('move', 'move ', 'move 1 2', 'move p', 'move +1', 'move 01', 'move -0', 'move 1234567890123456789', 'moves 1', 'move -'),
            'first': ('first', 'first -', 'first 1', 'first P', 'first p ', 'firsts p'),
            'watch': ('watch', 'watch ', 'watch - -', 'watch - p', 'watch p -', 'watch 1', 'watch P', 'watch --', 'watch p  q', 'watch-'),
            'seen': ('seen ', 'seen+', 'seen *', 'seen ++', 'seen + ', 'seen  +', 'seen True', 'seen 1', 'Seen', 'seen +  -', 'sees +', '+'),
            'state': ('state', 'state 0', 'state 0 p', 'state 0 p >', 'state p > 0', 'state 0 > 0', 'state > 0', 'state 0 p 0',
                      'state 0 p > p', 'state 0 p > 0 > 0', 'state 00 p > 0', 'state 0 p > 00', 'state +0 p > 0', 'state 0 P > 0',
                      'state 0 - > 0', 'state 0 p > -', 'state 0 p > 0 ', 'state 0 p  > 0', 'state 0 p > -0', 'state -0 p > 0',
                      'state 0 0 > 0', 'state p p > 0', '> 0', 'state 0 p > 1234567890123456789', 'states 0 p > 0')}
        for kind, sorts in SORTS.items():
            lines = self.TEXTS[kind].split('\n')
            for sort in [sort.rstrip('+') for sort in sorts]:
                at = [line.split()[0] for line in lines].index(sort)
                for line in good[sort]:
                    self.assertIsNone(self.both(kind, '\n'.join(lines[:at] + [line] + lines[at + 1:])))
                for line in bad[sort]:
                    self.assertEqual(self.both(kind, '\n'.join(lines[:at] + [line] + lines[at + 1:])), at, line)

    def test_texts_with_signs_otherwise(self):
        chance = random.Random(9)
        counted = {}
        for kind, thing, text, machine, watch in SHOWN:
            for _ in range(25):
                changed = text
                for _ in range(chance.choice([1, 1, 1, 2])):
                    at = chance.randrange(len(changed) + 1)
                    sign = chance.choice('ab p0129-+>\n \t,A_' + 'qr' + text[:3])
                    way = chance.randrange(4)
                    if way == 0:
                        changed = changed[:at] + sign + changed[at:]
                    elif way == 1:
                        changed = changed[:at] + changed[at + 1:]
                    elif way == 2:
                        changed = changed[:at] + sign + changed[at + 1:]
                    else:
                        parts = re.split('( |\n)', changed)
                        one, other = chance.randrange(len(parts)), chance.randrange(len(parts))
                        parts[one], parts[other] = parts[other], parts[one]
                        changed = ''.join(parts)
                found = read(kind, changed, machine, watch)
                wanted = wanted_outcome(kind, changed, machine, watch)
                self.assertEqual(found, wanted, (kind, changed))
                key = found[0] if type(found) is tuple and found and isinstance(found[0], type) else kind
                counted[key] = counted.get(key, 0) + 1
        self.assertLessEqual(
            {BadText, BadSteps, BadClock, BadPages, BadMove, BadSet, BadWatch, BadJournal, BadStates}, set(counted), counted)


class WrongThingsTest(unittest.TestCase):

    def raised(self, error, value, call, *passed):
        with self.assertRaises(error) as caught:
            call(*passed)
        self.assertIs(type(caught.exception), error)
        self.assertEqual(caught.exception.value, value)
        self.assertEqual(repr(caught.exception.value), repr(value))

    def test_machines(self):
        text = 'step a p > a b\nstep b q > a\nclock 2\npages p q\nmove 1\nfirst p'
        for old, new, error, value in (
                ('a b\n', 'b a\n', BadSteps, (('a', 'p', ('b', 'a')), ('b', 'q', ('a',)))),
                ('step b q > a', 'step b q > c', BadSteps, (('a', 'p', ('a', 'b')), ('b', 'q', ('c',)))),
                ('step b q', 'step a q', BadSteps, (('a', 'p', ('a', 'b')), ('a', 'q', ('a',)))),
                ('clock 2', 'clock 0', BadClock, (0,)), ('clock 2', 'clock 1 2 3 1', BadClock, (1, 2, 3, 1)),
                ('clock 2', 'clock -2', BadClock, (-2,)), ('pages p q', 'pages q p', BadPages, ('q', 'p')),
                ('pages p q', 'pages p r', BadPages, ('p', 'r')), ('pages p q', 'pages p', BadPages, ('p',)),
                ('move 1', 'move 10', BadMove, 10), ('move 1', 'move -1', BadMove, -1), ('first p', 'first r', BadSet, ('r',)),
                ('first p', 'first p q', BadSet, ('p', 'q')), ('first p', 'first p p', BadSet, ('p', 'p'))):
            self.assertIn(old, text)
            self.raised(error, value, read_machine, text.replace(old, new))
        nine = '\n'.join(f'step {name} p >' for name in 'abcdefghi') + '\nclock 1\npages p q\nmove 0\nfirst p'
        self.raised(BadSteps, tuple((name, 'p', ()) for name in 'abcdefghi'), read_machine, nine)

    def test_several_wrong_things(self):
        parts = [('a b\n', 'b a\n', BadSteps, (('a', 'p', ('b', 'a')), ('b', 'q', ('a',)))), ('clock 2', 'clock 4', BadClock, (4,)),
                 ('pages p q', 'pages q p', BadPages, ('q', 'p')), ('move 1', 'move 99', BadMove, 99),
                 ('first p', 'first q p', BadSet, ('q', 'p'))]
        for at in range(len(parts)):
            for more in ([], parts[at + 1:], parts[-1:]):
                text = show_machine(EXAMPLE)
                for old, new, _, _ in parts[at:at + 1] + more:
                    text = text.replace(old, new)
                self.raised(parts[at][2], parts[at][3], read_machine, text)
                # A line of no form goes ahead of all that lines tell.
                self.raised(BadText, 5, read_machine, text.replace('first', 'last'))
                self.raised(BadText, 6, read_machine, text + '\n')

    def test_watches(self):
        for text, value in (
                ('watch q p', (('q', 'p'),)), ('watch p p', (('p', 'p'),)), ('watch r', (('r',),)), ('watch p\nwatch q', (('p',), ('q',))),
                ('watch -\nwatch -', ((), ()))):
            self.raised(BadWatch, value, read_watch, EXAMPLE, text)
        self.raised(BadWatch, ((),), read_watch, FREE, 'watch -')

    def test_journals(self):
        watch = (('p', 'q'),)
        for text, value in (
                ('seen +', ((True,),)), ('seen', ((),)), ('seen + - +', ((True, False, True),)),
                ('seen + -\nseen', ((True, False), ())), ('\n'.join(['seen + -'] * 9), ((True, False),) * 9)):
            self.raised(BadJournal, value, read_journal, EXAMPLE, watch, text)
        self.assertEqual(read_journal(EXAMPLE, watch, '\n'.join(['seen + -'] * 8)), ((True, False),) * 8)

    def test_rules(self):
        watch = (('p',),)
        for text, value in (
                ('state 0 q > 0 0', ((0, ('q',), (0, 0)),)), ('state 1 p > 0 0', ((1, ('p',), (0, 0)),)),
                ('state 0 p > 0', ((0, ('p',), (0,)),)), ('state 0 p > 0 1', ((0, ('p',), (0, 1)),)),
                ('state 0 p > 0 -1', ((0, ('p',), (0, -1)),)), ('state 0 p q > 0 0', ((0, ('p', 'q'), (0, 0)),)),
                ('\n'.join(['state 0 p > 0 0'] * 13), ((0, ('p',), (0, 0)),) * 13)):
            self.raised(BadStates, value, read_rule, EXAMPLE, watch, text)
        self.assertEqual(len(read_rule(EXAMPLE, watch, '\n'.join(['state 0 p > 0 0'] * 12)).states), 12)

    def test_a_watch_that_is_none_goes_ahead_of_all(self):
        for value in ANY_VALUES + ((('q', 'p'),), (('r',),), [('p',)], (('p',), ('q',))):
            if value == ((),):
                continue
            for text in ('seen +', 'x', None, 'seen + + +', ''):
                with self.assertRaises(BadWatch) as caught:
                    read_journal(EXAMPLE, value, text)
                self.assertIs(caught.exception.value, value)
                with self.assertRaises(BadWatch) as caught:
                    read_rule(EXAMPLE, value, text)
                self.assertIs(caught.exception.value, value)
            for journal in (((True,),), (), None):
                with self.assertRaises(BadWatch) as caught:
                    show_journal(EXAMPLE, value, journal)
                self.assertIs(caught.exception.value, value)
            with self.assertRaises(BadWatch) as caught:
                show_watch(EXAMPLE, value)
            self.assertIs(caught.exception.value, value)

    def test_a_journal_that_is_none(self):
        for value in ANY_VALUES + ((), ((True,),), ((1, 0),), [(True, True)], ((True, False),) * 9):
            with self.assertRaises(BadJournal) as caught:
                show_journal(EXAMPLE, (('p', 'q'),), value)
            self.assertIs(caught.exception.value, value)


class NamesTest(unittest.TestCase):

    def test_names_that_are_words_of_the_texts(self):
        machine = [thing for kind, thing, *_ in SHOWN if kind == 'machine' and thing.names[0] == 'step'][0]
        self.assertEqual(show_machine(machine).split('\n')[0], 'step step clock > first step')
        self.assertEqual(read_machine(show_machine(machine)), machine)
        rule = chasing(machine)
        self.assertEqual(read_rule(machine, rule.watch, show_rule(rule)), rule)
        self.assertEqual(Machine(STEPS, (2,), ('p', 'q'), 1, ('p',)), EXAMPLE)


if __name__ == '__main__':
    unittest.main()
