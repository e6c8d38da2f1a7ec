import copy
import random
import unittest

from knowledge import EITHER, all_triples, book_holds, floor_of, least_held, posts_hold, small_games
from oracle import marks_that_may_be
from rulebook import chasing, made_up
from samples import ANY_VALUES, EXAMPLE
from seldomseen.bounds import bound, shows_bound
from seldomseen.errors import BadBound, BadStates, BadWatch, BadWeight, TooMany
from seldomseen.holding import hold, rule_of, shows_book, shows_posts
from seldomseen.machines import Machine
from seldomseen.rules import Rule

GAMES = list(small_games(120, 1))

# Three pages, two moves to another set: who sees little soon has many cases.
WIDE = Machine(
    (('a', 'p', ('a', 'b', 'c')), ('b', 'q', ('a', 'b', 'd')), ('c', 'r', ('b', 'c', 'd')), ('d', None, ('a', 'c', 'd'))),
    (2, 1), ('p', 'q', 'r'), 1, ('p', 'q'))


# Machines and what is asked of them, with the number of unlike triples that come.
CLOSE = (
    (300, (('d', 'p', ('e', 'f')), ('e', 'q', ('d', 'e', 'f')), ('f', 'q', ('d', 'e', 'f'))), (1, 1), ('p', 'q', 'r'), 1,
     ('q', 'r'), (('p', 'q', 'r'), ('r',)), 1, 1, 5),
    (300, (('f', 'q', ('a', 'f')), ('a', None, ('a', 'f'))), (1,), ('p', 'q', 'r'), 1, ('p', 'r'), (('p', 'q', 'r'),), 3, 2, 6),
    (300, (('a', 'p', ('d',)), ('d', 'r', ('a', 'd'))), (2,), ('p', 'q', 'r'), 2, ('q',), (('p',),), 2, 1, 6),
    (301, (('a', 'q', ('a', 'c')), ('c', 'p', ('a', 'c'))), (1, 2), ('p', 'q'), 2, ('p',), (('p',), ()), 3, 1, 6),
    (301, (('a', 'r', ('a', 'e', 'f')), ('e', None, ('a', 'e', 'f')), ('f', 'r', ('a', 'e', 'f'))), (1,), ('p', 'q', 'r'), 1,
     ('q',), (('p', 'r'),), 3, 1, 4),
    (301, (('f', 'q', ('e', 'f', 'g')), ('h', None, ('f',)), ('e', 'r', ('g',)), ('g', None, ('e', 'f', 'g'))), (1, 2),
     ('p', 'q', 'r'), 1, ('p', 'q'), ((), ()), 2, 1, 5))


class HoldTest(unittest.TestCase):

    def test_the_example(self):
        self.assertEqual(hold(EXAMPLE, ((),), 1, 1, 0)[:2], ('holds', 0))
        self.assertEqual(hold(EITHER, ((),), 1, 1, 2)[0], 'breaks')

    def test_against_the_plain_game(self):
        counted = {}
        for number, (machine, watch, a, b) in enumerate(GAMES):
            most = (6, 3, 0, 1)[number % 4]
            wanted = least_held(machine, watch, a, b, most)
            counted[wanted] = counted.get(wanted, 0) + 1
            if wanted == 'many':
                with self.assertRaises(TooMany) as caught:
                    hold(machine, watch, a, b, most)
                self.assertEqual(caught.exception.value, 300)
                continue
            found = hold(machine, watch, a, b, most)
            self.assertEqual(hold(machine=machine, watch=watch, a=a, b=b, most=most), found)
            if wanted is None:
                self.assertEqual((found[0], len(found)), ('breaks', 2))
                self.assertTrue(book_holds(machine, watch, a, b, most, found[1]))
                self.assertIs(shows_book(machine, watch, a, b, most, found[1]), True)
                continue
            self.assertEqual((found[:2], len(found)), (('holds', wanted), 4))
            self.assertTrue(posts_hold(machine, watch, a, b, wanted, found[2]), found[2])
            self.assertIs(shows_posts(machine, watch, a, b, wanted, found[2]), True)
            if wanted == 0:
                self.assertIsNone(found[3])
            else:
                self.assertTrue(book_holds(machine, watch, a, b, wanted - 1, found[3]))
                self.assertIs(shows_book(machine, watch, a, b, wanted - 1, found[3]), True)
        self.assertGreaterEqual(len(counted), 6, counted)
        self.assertGreater(counted[None], 10)

    def test_for_other_bounds(self):
        for machine, watch, a, b in GAMES[::2]:
            try:
                found = hold(machine, watch, a, b, 4)
            except TooMany:
                continue
            for d in range(7):
                if found[0] == 'holds':
                    self.assertIs(shows_posts(machine, watch, a, b, d, found[2]), d >= found[1])
                    if found[3] is not None:
                        # Where it breaks more than it has to, or no more than that.
                        wanted = book_holds(machine, watch, a, b, d, found[3])
                        self.assertIs(shows_book(machine, watch, a, b, d, found[3]), wanted)
                        self.assertTrue(not wanted or d < found[1])
                        self.assertTrue(wanted or d >= found[1])
                else:
                    wanted = book_holds(machine, watch, a, b, d, found[1])
                    self.assertIs(shows_book(machine, watch, a, b, d, found[1]), wanted)
                    self.assertTrue(wanted or d > 4)

    def test_a_lesser_most_tells_the_same_or_breaks(self):
        for machine, watch, a, b in GAMES[1::3]:
            told = []
            for most in range(7):
                try:
                    found = hold(machine, watch, a, b, most)
                except TooMany:
                    break
                told.append(found[1] if found[0] == 'holds' else None)
            for most, d in enumerate(told):
                self.assertIn(d, (None, told[-1]))
                self.assertEqual(d is None, told[-1] is None or told[-1] > most)

    def test_no_rule_does_better(self):
        chance = random.Random(3)
        compared = 0
        for machine, watch, a, b in GAMES:
            try:
                found = hold(machine, watch, a, b, 6)
            except TooMany:
                continue
            least = found[1] if found[0] == 'holds' else 7
            for _ in range(6):
                rule = made_up(machine, watch, chance, chance.randrange(len(machine.clock), 6))
                told = bound(rule, a, b)
                if told[0] == 'most':
                    compared += 1
                    self.assertGreaterEqual(max(told[1], 0), least)
        self.assertGreater(compared, 200)

    def test_who_sees_all_does_as_well_as_any_rule(self):
        for machine, watch, a, b in GAMES[::3]:
            told = bound(chasing(machine), a, b)
            if told[0] == 'most' and told[1] <= 6:
                try:
                    found = hold(machine, (machine.pages,) * len(machine.clock), a, b, 6)
                except TooMany:
                    continue
                self.assertEqual(found[0], 'holds')
                self.assertLessEqual(found[1], max(told[1], 0))

    def test_a_book_for_a_coarser_watch_is_none_for_a_finer_one(self):
        for machine, watch, a, b in GAMES[::3]:
            everything = (machine.pages,) * len(machine.clock)
            nothing = ((),) * len(machine.clock)
            told = []
            for seen in (everything, watch, nothing):
                try:
                    found = hold(machine, seen, a, b, 3)
                except TooMany:
                    continue
                told.append(found[1] if found[0] == 'holds' else 4)
            self.assertEqual(told, sorted(told))

    def test_marks_that_cannot_come_are_answered(self):
        # Nothing follows within turn 0, and so no run comes to place 1.
        machine = Machine((('a', 'p', ('b',)), ('b', None, ())), (2, 1), ('p', 'q'), 1, ('q',))
        short = Machine((('a', 'p', ()),), (2, 1), ('p', 'q'), 1, ('q',))
        for there in (machine, short):
            for watch in (((), ()), (('p',), ('p', 'q'))):
                found = hold(there, watch, 1, 1, 0)
                self.assertEqual(found[:2], ('holds', 0))
                self.assertTrue(posts_hold(there, watch, 1, 1, 0, found[2]))
                self.assertEqual({post[0] for post in found[2]}, {0, 1})
                rule = rule_of(there, watch, found[2])
                self.assertLessEqual(bound(rule, 1, 1)[1], 0)

    def test_a_book_of_one_leaf(self):
        machine = Machine((('a', 'q', ('a',)),), (2,), ('p', 'q'), 0, ('p',))
        found = hold(machine, ((),), 1, 3, 3)
        self.assertEqual(found, ('breaks', ((0, ('p',), (((None, (), ('p',)), 0),), ('breaks', 0, ('a', 'a'))),)))
        self.assertIs(shows_book(machine, ((),), 1, 3, 3, found[1]), True)
        self.assertIs(shows_book(machine, ((),), 1, 3, 4, found[1]), False)
        self.assertEqual(hold(machine, ((),), 1, 3, 4)[:2], ('holds', 4))

    def test_knowledges_are_raised(self):
        for machine, watch, a, b in GAMES[::3]:
            try:
                found = hold(machine, watch, a, b, 2)
            except TooMany:
                continue
            known = [post[2] for post in (found[2] if found[0] == 'holds' else found[1])]
            for rows in known:
                self.assertTrue(all(excess >= floor_of(machine, a) for _, excess in rows))


class TooManyTest(unittest.TestCase):

    def test_just_where_more_than_300_come(self):
        counted = {True: 0, False: 0}
        chance = random.Random(5)
        cases = [(WIDE, watch, a, b) for watch in (((), ()), (('p',), ()), (('p', 'q'), ('r',)), (('p', 'q', 'r'),) * 2)
                 for a, b in ((1, 1), (3, 2), (2, 3))]
        for machine, watch, a, b in cases[::2] + chance.sample(GAMES, 20):
            for most in (0, 2, 5):
                triples = all_triples(machine, watch, a, b, most)
                counted[triples is None] += 1
                if triples is None:
                    with self.assertRaises(TooMany) as caught:
                        hold(machine, watch, a, b, most)
                    self.assertEqual(caught.exception.value, 300)
                else:
                    hold(machine, watch, a, b, most)
        self.assertGreater(min(counted.values()), 2, counted)

    def test_just_300_and_one_more(self):
        for many, steps, clock, pages, move, first, watch, a, b, most in CLOSE:
            machine = Machine(steps, clock, pages, move, first)
            self.assertEqual(len(all_triples(machine, watch, a, b, most, 400)), many)
            if many > 300:
                with self.assertRaises(TooMany) as caught:
                    hold(machine, watch, a, b, most)
                self.assertEqual(caught.exception.value, 300)
            else:
                self.assertIn(hold(machine, watch, a, b, most)[0], ('holds', 'breaks'))

    def test_behind_the_other_errors(self):
        watch = (('p', 'q'), ('r',))
        with self.assertRaises(TooMany):
            hold(WIDE, watch, 1, 1, 6)
        for passed, error in (((None, 1, 1, 6), BadWatch), ((watch, 0, 1, 6), BadWeight), ((watch, 1, 4, 6), BadWeight),
                              ((watch, 1, 1, 7), BadBound)):
            with self.assertRaises(error):
                hold(WIDE, *passed)


class RaisedTest(unittest.TestCase):

    def raised(self, error, value, call, *passed):
        before = copy.deepcopy(value)
        with self.assertRaises(error) as caught:
            call(*passed)
        self.assertIs(type(caught.exception), error)
        self.assertIs(caught.exception.value, value)
        self.assertEqual(value, before)

    def calls(self):
        return ((hold, ()), (shows_posts, (None,)), (shows_book, ((),)),
                (shows_posts, (hold(EXAMPLE, ((),), 1, 1, 0)[2],)), (shows_book, (hold(EITHER, ((),), 1, 1, 2)[1],)))

    def test_watch_then_weights_then_bound(self):
        for call, rest in self.calls():
            for value in ANY_VALUES + ((('q', 'p'),), (('r',),), [()], ((), ())):
                if value != ((),):
                    for others in ((1, 1, 0), (0, 1, 0), (1, None, 9), (None, None, None)):
                        self.raised(BadWatch, value, call, EXAMPLE, value, *others, *rest)
            for value in ANY_VALUES + (0, 4, 10, -1, True, '1', [1], (1,)):
                if type(value) is int and 1 <= value <= 3:
                    continue
                for others in ((1, 0), (0, 0), (1, 9), (None, None)):
                    self.raised(BadWeight, value, call, EXAMPLE, ((),), value, *others, *rest)
                for d in (0, 7, None):
                    self.raised(BadWeight, value, call, EXAMPLE, ((),), 1, value, d, *rest)
            for value in ANY_VALUES + (-1, 7, True, None, '0', [0], (0,)):
                if type(value) is int and 0 <= value <= 6:
                    continue
                self.raised(BadBound, value, call, EXAMPLE, ((),), 3, 3, value, *rest)

    def test_all_that_is_good(self):
        for a in (1, 2, 3):
            for b in (1, 2, 3):
                for d in range(7):
                    self.assertIn(hold(EXAMPLE, (('p',),), a, b, d)[0], ('holds', 'breaks'))
                    self.assertIs(shows_posts(EXAMPLE, (('p',),), a, b, d, 0), False)
                    self.assertIs(shows_book(EXAMPLE, (('p',),), a, b, d, 0), False)

    def test_by_name(self):
        named = {'machine': EXAMPLE, 'watch': ((),), 'a': 1, 'b': 1}
        posts = hold(most=0, **named)[2]
        self.assertIs(shows_posts(d=0, value=posts, **named), True)
        named['machine'] = EITHER
        self.assertIs(shows_book(d=2, value=hold(most=2, **named)[1], **named), True)


class RuleOfTest(unittest.TestCase):

    def test_the_rule_of_posts_holds_the_bound(self):
        made = 0
        for machine, watch, a, b in GAMES:
            try:
                found = hold(machine, watch, a, b, 6)
            except TooMany:
                continue
            if found[0] == 'breaks':
                continue
            states = tuple((place, own, answers) for place, own, _, answers in found[2])
            if len(states) > 12:
                with self.assertRaises(BadStates) as caught:
                    rule_of(machine, watch, found[2])
                self.assertEqual(caught.exception.value, states)
                continue
            made += 1
            rule = rule_of(machine=machine, watch=watch, posts=found[2])
            self.assertEqual(rule, Rule(machine, watch, states))
            told = bound(rule, a, b)
            self.assertEqual(told[0], 'most')
            self.assertLessEqual(told[1], found[1])
            self.assertIs(shows_bound(rule, a, b, told), True)
        self.assertGreater(made, 60)

    def test_by_their_form_alone(self):
        # These posts hold nothing.
        posts = ((0, ('p',), (), (1,)), (0, ('q',), (((None, (), ('p',)), 5),), (0,)))
        self.assertIs(shows_posts(EXAMPLE, ((),), 1, 1, 6, posts), False)
        self.assertEqual(rule_of(EXAMPLE, ((),), posts), Rule(EXAMPLE, ((),), ((0, ('p',), (1,)), (0, ('q',), (0,)))))

    def test_more_than_twelve(self):
        for many in (12, 13, 40):
            posts = tuple((0, ('p',), (), ((k + 1) % many,)) for k in range(many))
            if many == 12:
                self.assertEqual(len(rule_of(EXAMPLE, ((),), posts).states), 12)
                continue
            with self.assertRaises(BadStates) as caught:
                rule_of(EXAMPLE, ((),), posts)
            self.assertEqual(caught.exception.value, tuple((0, ('p',), ((k + 1) % many,)) for k in range(many)))

    def test_bad_watch_goes_ahead(self):
        posts = tuple((0, ('p',), (), ((k + 1) % 13,)) for k in range(13))
        for value in (None, (), (('q', 'p'),), [()], ((), ())):
            with self.assertRaises(BadWatch) as caught:
                rule_of(EXAMPLE, value, posts)
            self.assertIs(caught.exception.value, value)


class AnswersTest(unittest.TestCase):

    def test_each_mark_has_an_answer(self):
        for machine, watch, a, b in GAMES[::3]:
            try:
                found = hold(machine, watch, a, b, 6)
            except TooMany:
                continue
            if found[0] == 'holds':
                for place, _, _, answers in found[2]:
                    self.assertEqual(len(answers), len(marks_that_may_be(watch, place)))


if __name__ == '__main__':
    unittest.main()
