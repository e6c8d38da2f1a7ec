"""shows_posts and shows_book beside the clauses of the document, for values of others."""

import copy
import random
import unittest

from changes import some_changed
from knowledge import EITHER, book_holds, first_row, floor_of, posts_hold, small_games
from oracle import marks_that_may_be, states_of
from samples import ANY_VALUES, EXAMPLE
from seldomseen.errors import TooMany
from seldomseen.holding import hold, shows_book, shows_posts
from seldomseen.machines import Machine


def held_games(many, seed, most=4):
    """(machine, watch, a, b, what hold tells) for games that are not too great."""
    for machine, watch, a, b in small_games(many, seed):
        try:
            yield machine, watch, a, b, hold(machine, watch, a, b, most)
        except TooMany:
            pass


def rows_known(found):
    return sum(len(part[2]) for told in found[1:] if isinstance(told, tuple) for part in told)


# Small ones, since each of them is looked at many times over.
HELD = [game for game in held_games(160, 21) if rows_known(game[4]) <= 60]
STILL = hold(EXAMPLE, (('p',),), 1, 1, 0)[2]
BREAK = hold(EITHER, (('p',),), 1, 1, 0)[1]


def names_of(machine):
    return machine.names + machine.pages + ('breaks', 'whatever', '')


def raised_knowledge(chance, machine, a, known, by):
    """The same knowledge, some excesses otherwise, and with rows more."""
    table = {stand: max(excess + chance.choice([0, 0, by]), floor_of(machine, a)) for stand, excess in known}
    for step, pages in chance.sample(states_of(machine), min(3, len(states_of(machine)))):
        if chance.random() < 0.3:
            table.setdefault((step, pages, chance.choice(machine.sets)), floor_of(machine, a) + chance.randrange(3))
    return tuple(sorted(table.items(), key=lambda row: (row[0][0] or '',) + row[0][1:]))


class PostsTest(unittest.TestCase):

    def test_with_one_or_two_parts_otherwise(self):
        chance = random.Random(41)
        counted = {True: 0, False: 0}
        for machine, watch, a, b, found in HELD:
            if found[0] == 'holds':
                for value in some_changed(chance, found[2], names_of(machine), 25):
                    d = found[1] + chance.choice([0, 0, 1])
                    wanted = posts_hold(machine, watch, a, b, d, value)
                    counted[wanted] += 1
                    before = copy.deepcopy(value)
                    self.assertIs(shows_posts(machine, watch, a, b, d, value), wanted, (machine.steps, watch, value))
                    self.assertEqual(value, before)
        self.assertGreater(min(counted.values()), 100, counted)

    def test_posts_of_others(self):
        # With more known than has to be, with posts twice, in another order behind the first one.
        chance = random.Random(42)
        counted = {True: 0, False: 0}
        for machine, watch, a, b, found in HELD:
            if found[0] == 'breaks':
                continue
            posts = found[2]
            for by in (0, 0, 1, -1):
                changed = tuple((place, own, raised_knowledge(chance, machine, a, known, by), answers)
                                for place, own, known, answers in posts)
                for d in (found[1], min(found[1] + 2, 6)):
                    wanted = posts_hold(machine, watch, a, b, d, changed)
                    counted[wanted] += 1
                    self.assertIs(shows_posts(machine, watch, a, b, d, changed), wanted)
            order = [0] + chance.sample(range(1, len(posts)), len(posts) - 1) + [chance.randrange(len(posts))]
            at = {old: [k for k, other in enumerate(order) if other == old] for old in order}
            mixed = tuple((posts[old][0], posts[old][1], posts[old][2], tuple(
                chance.choice(at[answer]) for answer in posts[old][3])) for old in order)
            self.assertTrue(posts_hold(machine, watch, a, b, found[1], mixed))
            self.assertIs(shows_posts(machine, watch, a, b, found[1], mixed), True)
        self.assertGreater(min(counted.values()), 50, counted)

    def test_other_answers(self):
        counted = {True: 0, False: 0}
        for machine, watch, a, b, found in HELD[::2]:
            if found[0] == 'breaks':
                continue
            posts = found[2]
            for at, (place, own, known, answers) in enumerate(posts):
                for mark in range(len(answers)):
                    for number in range(-1, len(posts) + 1):
                        changed = answers[:mark] + (number,) + answers[mark + 1:]
                        value = posts[:at] + ((place, own, known, changed),) + posts[at + 1:]
                        wanted = posts_hold(machine, watch, a, b, found[1], value)
                        counted[wanted] += 1
                        self.assertIs(shows_posts(machine, watch, a, b, found[1], value), wanted)
        self.assertGreater(min(counted.values()), 100, counted)

    def test_each_row_otherwise(self):
        counted = {True: 0, False: 0}
        for machine, watch, a, b, found in HELD[::2]:
            if found[0] == 'breaks':
                continue
            posts = found[2]
            for at, (place, own, known, answers) in enumerate(posts[:4]):
                for row, (stand, excess) in list(enumerate(known))[:8]:
                    for rows in (known[:row] + known[row + 1:], known[:row] + ((stand, excess - 1),) + known[row + 1:],
                                 known[:row] + ((stand, excess + 1),) + known[row + 1:],
                                 known[:row] + (known[row],) + known[row:], known[row:] + known[:row],
                                 known[:row] + ((stand, floor_of(machine, a) - 1),) + known[row + 1:],
                                 known[:row] + ((stand, floor_of(machine, a)),) + known[row + 1:]):
                        value = posts[:at] + ((place, own, rows, answers),) + posts[at + 1:]
                        wanted = posts_hold(machine, watch, a, b, found[1], value)
                        counted[wanted] += 1
                        self.assertIs(shows_posts(machine, watch, a, b, found[1], value), wanted)
        self.assertGreater(min(counted.values()), 50, counted)

    def test_the_first_one(self):
        self.assertIs(shows_posts(EXAMPLE, (('p',),), 1, 1, 0, STILL), True)
        self.assertEqual(STILL[0][:3], (0, ('p',), (first_row(EXAMPLE),)))
        for excess, wanted in ((-1, False), (0, True), (-3, False), (False, False), (None, False)):
            value = ((0, ('p',), (((None, (), ('p',)), excess),), STILL[0][3]),) + STILL[1:]
            self.assertIs(shows_posts(EXAMPLE, (('p',),), 1, 1, 0, value), wanted)
        for known in ((), (((None, (), ('q',)), 0),), (((None, ('p',), ('p',)), 0),), ((('a', (), ('p',)), 0),)):
            value = ((0, ('p',), known, STILL[0][3]),) + STILL[1:]
            self.assertIs(shows_posts(EXAMPLE, (('p',),), 1, 1, 0, value), False)
        self.assertIs(shows_posts(EXAMPLE, (('p',),), 1, 1, 0, ()), False)
        self.assertIs(shows_posts(EXAMPLE, (('p',),), 1, 1, 0, STILL[1:]), False)

    def test_the_beginning_may_stand_in_any_knowledge(self):
        # In place 1 a run that begins there would touch q twice.
        machine = Machine((('a', 'p', ('a',)),), (1, 2), ('p', 'q'), 1, ('p',))
        found = hold(machine, ((), ()), 1, 1, 0)
        self.assertEqual(found[:2], ('holds', 0))
        posts = found[2]
        for at, (place, own, known, answers) in enumerate(posts):
            if at == 0:
                continue
            for excess in (-3, 0, 1):
                value = posts[:at] + ((place, own, (((None, (), ('p',)), excess),) + known, answers),) + posts[at + 1:]
                wanted = posts_hold(machine, ((), ()), 1, 1, 0, value)
                self.assertIs(shows_posts(machine, ((), ()), 1, 1, 0, value), wanted)
                self.assertEqual(wanted, excess <= 0)

    def test_an_empty_knowledge_holds_anything(self):
        more = STILL + ((0, ('q',), (), (0, 0)),)
        self.assertIs(shows_posts(EXAMPLE, (('p',),), 1, 1, 0, more), True)
        self.assertIs(shows_posts(EXAMPLE, (('p',),), 1, 1, 0, STILL + ((0, ('q',), (), (0, 2)),)), len(STILL) > 2)
        self.assertIs(shows_posts(EXAMPLE, (('p',),), 1, 1, 0, STILL + ((1, ('q',), (), (0, 0)),)), False)
        self.assertIs(shows_posts(EXAMPLE, (('p',),), 1, 1, 0, STILL + ((0, ('q',), (), (0,)),)), False)

    def test_any_value(self):
        watch = (('p',),)
        for value in ANY_VALUES:
            values = [value, STILL + (value,), (value,) + STILL[1:]]
            for at in (0, len(STILL) - 1):
                for part in range(4):
                    post = STILL[at][:part] + (value,) + STILL[at][part + 1:]
                    values.append(STILL[:at] + (post,) + STILL[at + 1:])
                known = STILL[at][2]
                rows = [known + (value,), (value,) + known[1:], ((value, 0),) + known[1:], ((known[0][0], value),) + known[1:]]
                rows += [((known[0][0][:part] + (value,) + known[0][0][part + 1:], known[0][1]),) + known[1:]
                         for part in range(3)]
                for changed in rows:
                    values.append(STILL[:at] + ((0, STILL[at][1], changed, STILL[at][3]),) + STILL[at + 1:])
                answers = (value,) + STILL[at][3][1:]
                values.append(STILL[:at] + (STILL[at][:3] + (answers,),) + STILL[at + 1:])
            for told in values:
                before = copy.deepcopy(told)
                self.assertIs(shows_posts(EXAMPLE, watch, 1, 1, 0, told), posts_hold(EXAMPLE, watch, 1, 1, 0, told), told)
                self.assertEqual(told, before)

    def test_lists_and_bools(self):
        for value in (list(STILL), tuple(list(post) for post in STILL), tuple(post[:2] + (list(post[2]),) + post[3:] for post in STILL),
                      tuple(post[:3] + (list(post[3]),) for post in STILL), tuple((False,) + post[1:] for post in STILL),
                      tuple(post[:3] for post in STILL), tuple(post + ((),) for post in STILL), {0: STILL}):
            self.assertIs(shows_posts(EXAMPLE, (('p',),), 1, 1, 0, value), False)


class BookTest(unittest.TestCase):

    def books(self):
        for machine, watch, a, b, found in HELD:
            if found[0] == 'breaks':
                yield machine, watch, a, b, 4, found[1]
            elif found[3] is not None:
                yield machine, watch, a, b, found[1] - 1, found[3]

    def test_with_one_or_two_parts_otherwise(self):
        chance = random.Random(43)
        counted = {True: 0, False: 0}
        for machine, watch, a, b, d, book in self.books():
            for value in some_changed(chance, book, names_of(machine), 40):
                wanted = book_holds(machine, watch, a, b, d, value)
                counted[wanted] += 1
                before = copy.deepcopy(value)
                self.assertIs(shows_book(machine, watch, a, b, d, value), wanted, (machine.steps, watch, value))
                self.assertEqual(value, before)
        self.assertGreater(min(counted.values()), 100, counted)

    def test_books_of_others(self):
        # With less known than comes, and more, and with leaves twice or between others.
        chance = random.Random(44)
        counted = {True: 0, False: 0}
        for machine, watch, a, b, d, book in self.books():
            for by in (-1, -2, 1):
                for _ in range(3):
                    at = chance.randrange(len(book))
                    place, own, known, ways = book[at]
                    changed = raised_knowledge(chance, machine, a, known, by)
                    value = book[:at] + ((place, own, changed, ways),) + book[at + 1:]
                    wanted = book_holds(machine, watch, a, b, d, value)
                    counted[wanted] += 1
                    self.assertIs(shows_book(machine, watch, a, b, d, value), wanted)
            twice = tuple(
                leaf[:3] + ((leaf[3][0], leaf[3][1], tuple(number + len(book) for number in leaf[3][2])),)
                if leaf[3][0] == 'whatever' else leaf for leaf in book)
            self.assertTrue(book_holds(machine, watch, a, b, d, book + twice))
            self.assertIs(shows_book(machine, watch, a, b, d, book + twice), True)
            self.assertIs(shows_book(machine, watch, a, b, d, book + book), True)
        self.assertGreater(min(counted.values()), 50, counted)

    def test_each_row_otherwise(self):
        counted = {True: 0, False: 0}
        for machine, watch, a, b, d, book in self.books():
            for at, (place, own, known, ways) in enumerate(book[:6]):
                for row, (stand, excess) in list(enumerate(known))[:6]:
                    for rows in (known[:row] + known[row + 1:], known[:row] + ((stand, excess - 1),) + known[row + 1:],
                                 known[:row] + ((stand, excess + 1),) + known[row + 1:],
                                 known[:row] + ((stand, floor_of(machine, a)),) + known[row + 1:],
                                 known[:row] + ((stand, 0),) + known[row + 1:],
                                 known[:row] + ((stand, floor_of(machine, a) - 1),) + known[row + 1:],
                                 known[:row] + (known[row],) + known[row:]):
                        value = book[:at] + ((place, own, rows, ways),) + book[at + 1:]
                        wanted = book_holds(machine, watch, a, b, d, value)
                        counted[wanted] += 1
                        self.assertIs(shows_book(machine, watch, a, b, d, value), wanted)
        self.assertGreater(min(counted.values()), 50, counted)

    def test_other_marks_numbers_and_steps(self):
        counted = {True: 0, False: 0}
        for machine, watch, a, b, d, book in self.books():
            for at, (place, own, known, ways) in enumerate(book[:8]):
                if ways[0] == 'whatever':
                    others = [('whatever', marks, ways[2]) for marks in marks_that_may_be(watch, place)]
                    others += [('whatever', ways[1], ways[2][:k] + (number,) + ways[2][k + 1:])
                               for k in range(len(ways[2])) for number in range(-1, min(at + 2, 8))]
                    others += [('whatever', ways[1], ways[2][::-1]), ('whatever', ways[1], ways[2][:-1]),
                               ('whatever', ways[1], ways[2] + ways[2][:1]), ('whatever', ways[1] + (True,), ways[2]),
                               ('whatever', tuple(int(mark) for mark in ways[1]) or (1,), ways[2])]
                else:
                    others = [('breaks', row, ways[2]) for row in range(-1, len(known) + 1)]
                    others += [('breaks', ways[1], ways[2][:-1]), ('breaks', ways[1], ways[2] + ways[2][-1:]),
                               ('breaks', ways[1], ways[2][1:]), ('breaks', bool(ways[1]), ways[2])]
                    others += [('breaks', ways[1], ways[2][:-1] + (name,)) for name in machine.names]
                for other in others + [ways[::-1], ways[:2], ways + (0,), list(ways), ('Breaks',) + ways[1:]]:
                    value = book[:at] + ((place, own, known, other),) + book[at + 1:]
                    wanted = book_holds(machine, watch, a, b, d, value)
                    counted[wanted] += 1
                    self.assertIs(shows_book(machine, watch, a, b, d, value), wanted, value)
        self.assertGreater(min(counted.values()), 100, counted)

    def test_the_last_leaf(self):
        self.assertIs(shows_book(EITHER, (('p',),), 1, 1, 0, BREAK), True)
        for value in (BREAK[:-1], BREAK[1:], BREAK + BREAK[:1], (), BREAK[::-1],
                      BREAK[:-1] + (BREAK[-1][:2] + ((((None, (), ('p',)), -1),),) + BREAK[-1][3:],),
                      BREAK[:-1] + (BREAK[-1][:2] + ((((None, (), ('p',)), False),),) + BREAK[-1][3:],),
                      BREAK[:-1] + ((False,) + BREAK[-1][1:],),
                      BREAK[:-1] + (BREAK[-1][:2] + ((),) + BREAK[-1][3:],)):
            wanted = book_holds(EITHER, (('p',),), 1, 1, 0, value)
            self.assertFalse(wanted)
            self.assertIs(shows_book(EITHER, (('p',),), 1, 1, 0, value), False, value)

    def test_any_value(self):
        watch = (('p',),)
        leaves = {'whatever': None, 'breaks': None}
        for at, leaf in enumerate(BREAK):
            leaves[leaf[3][0]] = at
        self.assertNotIn(None, leaves.values())
        for value in ANY_VALUES:
            values = [value, BREAK + (value,), BREAK[:-1] + (value,), (value,) + BREAK[1:]]
            for at in leaves.values():
                leaf = BREAK[at]
                for part in range(4):
                    values.append(BREAK[:at] + (leaf[:part] + (value,) + leaf[part + 1:],) + BREAK[at + 1:])
                for part in range(3):
                    ways = leaf[3][:part] + (value,) + leaf[3][part + 1:]
                    values.append(BREAK[:at] + (leaf[:3] + (ways,),) + BREAK[at + 1:])
                known = leaf[2]
                for rows in (known + (value,), (value,) + known[1:], ((value, 0),) + known[1:],
                             ((known[0][0], value),) + known[1:]):
                    values.append(BREAK[:at] + (leaf[:2] + (rows,) + leaf[3:],) + BREAK[at + 1:])
                ways = leaf[3][:2] + ((value,) + leaf[3][2][1:],)
                values.append(BREAK[:at] + (leaf[:3] + (ways,),) + BREAK[at + 1:])
            for told in values:
                before = copy.deepcopy(told)
                self.assertIs(shows_book(EITHER, watch, 1, 1, 0, told), book_holds(EITHER, watch, 1, 1, 0, told), told)
                self.assertEqual(told, before)

    def test_posts_are_no_book_and_a_book_is_no_posts(self):
        self.assertIs(shows_book(EXAMPLE, (('p',),), 1, 1, 0, STILL), False)
        self.assertIs(shows_posts(EITHER, (('p',),), 1, 1, 0, BREAK), False)


if __name__ == '__main__':
    unittest.main()
