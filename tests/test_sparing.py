import copy
import random
import unittest
from itertools import chain, combinations, product

from changes import some_changed
from knowledge import EITHER, MANY_AHEAD, MANY_BEHIND, WATCHFUL, book_holds, posts_hold, small_games
from samples import ANY_VALUES, EXAMPLE
from seldomseen.errors import BadBound, BadPrices, BadWatch, BadWeight, TooMany
from seldomseen.holding import hold
from seldomseen.machines import Machine
from seldomseen.sparing import shows_sparing, sparing
from seldomseen.watches import coarser, is_watch

BOTH = (('p', 'q'),)


def parts(pages):
    return list(chain.from_iterable(combinations(pages, many) for many in range(len(pages) + 1)))


def cost_of(machine, prices, watch):
    return sum(prices[machine.pages.index(page)] for watched in watch for page in watched)


def in_order(machine, watch, prices):
    """All coarser watches, the watch among them, by their cost, then place by place."""
    return sorted(product(*[parts(watched) for watched in watch]), key=lambda other: (cost_of(machine, prices, other), other))


def told_by_hold(machine, watch, prices, a, b, d):
    """(watch or None, those ahead of it), from hold of each one by itself; 'many' if one raises."""
    ahead = []
    for other in in_order(machine, watch, prices):
        try:
            told = hold(machine, other, a, b, d)
        except TooMany:
            return 'many'
        if told[0] == 'holds':
            return other, ahead
        ahead.append(other)
    return None, ahead


def rows_bar(machine, watch, a, b, d, rows, ahead):
    if type(rows) is not tuple:
        return False
    for row in rows:
        if type(row) is not tuple or len(row) != 2 or not is_watch(machine, row[0]) or not coarser(machine, row[0], watch):
            return False
        if not book_holds(machine, row[0], a, b, d, row[1]):
            return False
    return all(any(coarser(machine, other, row[0]) for row in rows) for other in ahead)


def sparing_holds(machine, watch, prices, a, b, d, value):
    """Whether a value is as that of sparing as the document says it."""
    if type(value) is not tuple or not value or type(value[0]) is not str:
        return False
    ordered = in_order(machine, watch, prices)
    if value[0] == 'none' and len(value) == 2:
        return rows_bar(machine, watch, a, b, d, value[1], ordered)
    if value[0] != 'watch' or len(value) != 5 or type(value[1]) is not int:
        return False
    _, cost, chosen, posts, rows = value
    if not is_watch(machine, chosen) or chosen not in ordered or cost != cost_of(machine, prices, chosen):
        return False
    if not posts_hold(machine, chosen, a, b, d, posts):
        return False
    return rows_bar(machine, watch, a, b, d, rows, ordered[:ordered.index(chosen)])


def cases(many, seed):
    """(machine, watch, prices, a, b, d) of small games, with prices of all kinds."""
    chance = random.Random(seed)
    for number, (machine, watch, a, b) in enumerate(small_games(many, seed)):
        if number % 3 == 0:
            watch = (machine.pages,) * len(machine.clock)
        if sum(map(len, watch)) > 5:
            continue
        prices = chance.choice([
            (0,) * len(machine.pages), (99,) * len(machine.pages), tuple(chance.randrange(3) for _ in machine.pages),
            tuple(chance.randrange(100) for _ in machine.pages)])
        yield machine, watch, prices, a, b, chance.choice([0, 1, 1, 2, 2, 3])
    for machine, a, b, least, _ in WATCHFUL:
        many = len(machine.pages)
        for prices in ((1,) * many, tuple(chance.randrange(1, 100) for _ in range(many))):
            yield machine, (machine.pages,) * len(machine.clock), prices, a, b, least
    for machine, a, b, d in (MANY_AHEAD, MANY_BEHIND):
        yield machine, (machine.pages,) * len(machine.clock), (5, 3, 4)[:len(machine.pages)], a, b, d


CASES = list(cases(30, 17))


class SparingTest(unittest.TestCase):

    def test_the_example(self):
        self.assertEqual(sparing(EXAMPLE, BOTH, (2, 3), 1, 1, 0)[:3], ('watch', 0, ((),)))

    def test_beside_hold_of_each_watch(self):
        counted = {'watch': 0, 'none': 0, 'many': 0, 'not the first': 0}
        for case in CASES:
            machine, watch, prices, a, b, d = case
            wanted = told_by_hold(*case)
            if wanted == 'many':
                counted['many'] += 1
                with self.assertRaises(TooMany) as caught:
                    sparing(*case)
                self.assertEqual(caught.exception.value, 300)
                continue
            found = sparing(*case)
            self.assertEqual(sparing(machine=machine, watch=watch, prices=prices, a=a, b=b, d=d), found)
            counted[found[0]] += 1
            chosen, ahead = wanted
            if chosen is None:
                self.assertEqual((found[0], len(found)), ('none', 2))
            else:
                counted['not the first'] += len(ahead) > 0
                self.assertEqual(found[:3], ('watch', cost_of(machine, prices, chosen), chosen))
                self.assertEqual(len(found), 5)
            if len(repr(found)) < 30000:
                self.assertTrue(sparing_holds(*case, found))
                self.assertTrue(rows_bar(machine, watch, a, b, d, found[-1], ahead))
            self.assertIs(shows_sparing(*case, found), True)
            self.assertIs(shows_sparing(machine=machine, watch=watch, prices=prices, a=a, b=b, d=d, value=found), True)
        self.assertGreater(min(counted.values()), 0, counted)

    def test_prices_decide(self):
        chosen = []
        for machine, a, b, least, _ in WATCHFUL[2:]:
            many, watches = len(machine.pages), set()
            for prices in (tuple(range(many)), tuple(range(many))[::-1], (1,) * many, (0,) * many):
                case = (machine, (machine.pages,) * len(machine.clock), prices, a, b, least)
                found = sparing(*case)
                self.assertEqual(found[1:3], (cost_of(machine, prices, found[2]), told_by_hold(*case)[0]))
                watches.add(found[2])
            chosen.append(len(watches))
        self.assertGreater(max(chosen), 1)

    def test_who_sees_nothing_is_asked_first(self):
        for machine, a, b, least, blind in WATCHFUL:
            everything = (machine.pages,) * len(machine.clock)
            prices = (3,) * len(machine.pages)
            self.assertGreater(sparing(machine, everything, prices, a, b, least)[1], 0)
            self.assertEqual(sparing(machine, ((),) * len(machine.clock), prices, a, b, least)[0], 'none')
            if blind is not None:
                self.assertEqual(sparing(machine, everything, prices, a, b, blind)[1:3], (0, ((),) * len(machine.clock)))

    def test_costs_alike_go_place_by_place(self):
        for machine, watch, prices, a, b, d in CASES[::3]:
            same = (7,) * len(prices)
            wanted = told_by_hold(machine, watch, same, a, b, d)
            if wanted != 'many' and wanted[0] is not None:
                self.assertEqual(sparing(machine, watch, same, a, b, d)[2], wanted[0])
                free = (0,) * len(prices)
                wanted = told_by_hold(machine, watch, free, a, b, d)
                if wanted != 'many':
                    self.assertEqual(sparing(machine, watch, free, a, b, d)[1:3], (0, wanted[0]))

    def test_too_many_ahead_alone(self):
        machine, a, b, d = MANY_BEHIND
        everything, nothing = (machine.pages,) * len(machine.clock), ((),) * len(machine.clock)
        prices = (1,) * len(machine.pages)
        with self.assertRaises(TooMany):
            hold(machine, everything, a, b, d)
        found = sparing(machine, everything, prices, a, b, d)
        self.assertEqual(found[1:3], (0, nothing))
        self.assertIs(shows_sparing(machine, everything, prices, a, b, d, found), True)
        machine, a, b, d = MANY_AHEAD
        everything = (machine.pages,) * len(machine.clock)
        prices = (1,) * len(machine.pages)
        with self.assertRaises(TooMany) as caught:
            sparing(machine, everything, prices, a, b, d)
        self.assertEqual(caught.exception.value, 300)
        # What shows it raises none.
        self.assertIs(shows_sparing(machine, everything, prices, a, b, d, ('none', ())), False)

def told_cases():
    """(case, what sparing tells) of those that are not too long to be looked at many times over."""
    for case in CASES:
        try:
            found = sparing(*case)
        except TooMany:
            continue
        if len(repr(found)) <= 6000:
            yield case, found


TOLD = list(told_cases())


class ShowsSparingTest(unittest.TestCase):

    def test_with_one_or_two_parts_otherwise(self):
        chance = random.Random(3)
        counted = {True: 0, False: 0}
        for case, found in TOLD:
            names = case[0].names + case[0].pages + ('watch', 'none', 'breaks', 'whatever')
            for value in some_changed(chance, found, names, 12):
                wanted = sparing_holds(*case, value)
                counted[wanted] += 1
                before = copy.deepcopy(value)
                self.assertIs(shows_sparing(*case, value), wanted, value)
                self.assertEqual(value, before)
        self.assertGreater(min(counted.values()), 20, counted)

    def test_rows_otherwise(self):
        counted = {True: 0, False: 0}
        for case, found in TOLD:
            machine, watch, prices, a, b, d = case
            rows = found[-1]
            finest = [row for row in rows if not any(
                row[0] != other[0] and coarser(machine, row[0], other[0]) for other in rows)]
            for changed in [rows[::-1], rows + rows, rows + rows[:1], tuple(finest), tuple(finest[1:]), list(rows), ()] + [
                    rows[:at] + rows[at + 1:] for at in range(len(rows))] + [
                    rows[:at] + (rows[at][::-1],) + rows[at + 1:] for at in range(len(rows))] + [
                    rows[:at] + ((rows[at - 1][0], rows[at][1]),) + rows[at + 1:] for at in range(len(rows))]:
                value = found[:-1] + (changed,)
                wanted = sparing_holds(*case, value)
                counted[wanted] += 1
                self.assertIs(shows_sparing(*case, value), wanted)
        self.assertGreater(min(counted.values()), 20, counted)

    def test_rows_of_watches_that_come_behind(self):
        added = 0
        for case, found in TOLD:
            machine, watch, prices, a, b, d = case
            if found[0] != 'watch':
                continue
            ordered = in_order(machine, watch, prices)
            for other in ordered[ordered.index(found[2]) + 1:][:6]:
                try:
                    told = hold(machine, other, a, b, d)
                except TooMany:
                    continue
                if told[0] == 'breaks' and len(repr(told)) < 6000:
                    added += 1
                    for rows in (found[4] + ((other, told[1]),), ((other, told[1]),) + found[4]):
                        value = found[:4] + (rows,)
                        self.assertTrue(sparing_holds(*case, value))
                        self.assertIs(shows_sparing(*case, value), True)
        self.assertGreater(added, 0)

    def test_rows_of_watches_that_are_no_coarser(self):
        # The book breaks the bound for a watch, but that one is not one of those that are compared.
        case = (EITHER, ((),), (1, 1), 1, 1, 0)
        found = sparing(*case)
        self.assertEqual(found[0], 'none')
        finer = sparing(EITHER, BOTH, (1, 1), 1, 1, 0)
        self.assertEqual(finer[0], 'none')
        self.assertIs(shows_sparing(*case, found), True)
        self.assertIs(shows_sparing(*case, found[:1] + (found[1] + finer[1][-1:],)), False)
        self.assertIs(shows_sparing(*case, finer), False)
        # The finest one bars all others.
        last = [row for row in finer[1] if row[0] == BOTH]
        self.assertEqual(len(last), 1)
        self.assertIs(shows_sparing(EITHER, BOTH, (1, 1), 1, 1, 0, ('none', tuple(last))), True)
        self.assertIs(shows_sparing(EITHER, BOTH, (1, 1), 1, 1, 0, ('none', finer[1][:1])), False)

    def test_other_watches_and_costs(self):
        for case, found in TOLD:
            machine, watch, prices, a, b, d = case
            if found[0] != 'watch':
                continue
            for other in in_order(machine, watch, prices):
                cost = cost_of(machine, prices, other)
                for told in (('watch', cost, other) + found[3:], ('watch', found[1], other) + found[3:]):
                    self.assertIs(shows_sparing(*case, told), sparing_holds(*case, told))
            for cost in (found[1] + 1, found[1] - 1, str(found[1]), bool(found[1]), None):
                self.assertIs(shows_sparing(*case, ('watch', cost) + found[2:]), False)

    def test_a_watch_that_holds_but_is_not_the_first(self):
        posts = hold(EXAMPLE, BOTH, 1, 1, 0)[2]
        self.assertIs(shows_sparing(EXAMPLE, BOTH, (2, 3), 1, 1, 0, ('watch', 5, BOTH, posts, ())), False)
        # It is the first one where all cost nothing only if no lesser tuple of tuples stands ahead.
        self.assertIs(shows_sparing(EXAMPLE, BOTH, (0, 0), 1, 1, 0, ('watch', 0, BOTH, posts, ())), False)
        told = sparing(EXAMPLE, BOTH, (0, 0), 1, 1, 0)
        self.assertEqual(told[1:3], (0, ((),)))

    def test_forms(self):
        found = sparing(EXAMPLE, BOTH, (2, 3), 1, 1, 0)
        case = (EXAMPLE, BOTH, (2, 3), 1, 1, 0)
        for value in (found[:4], found + ((),), list(found), found[1:], ('none',) + found[1:], ('none', ()), ('Watch',) + found[1:],
                      (['watch'],) + found[1:], ('watch', False) + found[2:], found[:2] + ([()],) + found[3:],
                      found[:2] + ((['p'],),) + found[3:], found[:3] + (list(found[3]),) + found[4:],
                      found[:4] + ([],), found[:4] + (None,), found[:4] + ((None,),), found[:4] + (((), ()),), 'none', ('none',),
                      ('none', None), ('none', [])):
            self.assertIs(shows_sparing(*case, value), False, value)

    def test_any_value(self):
        holds, none = (EXAMPLE, BOTH, (2, 3), 1, 1, 0), (EITHER, BOTH, (1, 1), 1, 1, 0)
        for case in (holds, none):
            found = sparing(*case)
            for value in ANY_VALUES:
                values = [value] + [found[:at] + (value,) + found[at + 1:] for at in range(len(found))]
                values += [found[:-1] + (found[-1] + (value,),), found[:-1] + (found[-1] + ((value, ()),),),
                           found[:-1] + (found[-1] + ((((),), value),),)]
                for told in values:
                    before = copy.deepcopy(told)
                    self.assertIs(shows_sparing(*case, told), sparing_holds(*case, told), told)
                    self.assertEqual(told, before)


class RaisedTest(unittest.TestCase):

    GOOD = (BOTH, (2, 3), 1, 1, 0)
    BAD = (
        (BadWatch, (None, (), (('q', 'p'),), (('r',),), [('p', 'q')], ((), ()))),
        (BadPrices, ((), (1,), (1, 2, 3), [1, 2], (1, -1), (100, 1), (1, True), (False, 1), (1, None), (1, '2'), ((1,), 2), None, 3,
                     '12', {0: 1, 1: 2}, (1, [2]), (1, {}))),
        (BadWeight, (0, 4, 10, -1, True, None, '1', (1,), [1], {})),
        (BadWeight, (0, 4, 10, -1, True, None, '1', (1,), [1], {})),
        (BadBound, (-1, 7, True, False, None, '0', (0,), [0], {})))

    def raised(self, call, error, value, passed, rest):
        before = copy.deepcopy(passed)
        with self.assertRaises(error) as caught:
            call(EXAMPLE, *passed, *rest)
        self.assertIs(type(caught.exception), error)
        self.assertIs(caught.exception.value, value)
        self.assertEqual(passed, before)

    def test_each_alone_and_with_later_ones(self):
        for call, rest in ((sparing, ()), (shows_sparing, (None,)), (shows_sparing, (sparing(EXAMPLE, *self.GOOD),))):
            for at, (error, values) in enumerate(self.BAD):
                for value in values:
                    self.raised(call, error, value, self.GOOD[:at] + (value,) + self.GOOD[at + 1:], rest)
                    later = tuple(bad[1][0] for bad in self.BAD[at + 1:])
                    self.raised(call, error, value, self.GOOD[:at] + (value,) + later, rest)

    def test_any_value(self):
        good = ((((),),), (), (1, 2), (1, 2), (0, 1, 2))
        for call, rest in ((sparing, ()), (shows_sparing, (None,))):
            for at, (error, _) in enumerate(self.BAD):
                for value in ANY_VALUES:
                    if not any(value == other and type(value) is type(other) for other in good[at]):
                        self.raised(call, error, value, self.GOOD[:at] + (value,) + self.GOOD[at + 1:], rest)

    def test_prices_from_0_to_99(self):
        for prices in ((0, 0), (99, 99), (0, 99)):
            found = sparing(EITHER, BOTH, prices, 1, 1, 0)
            self.assertEqual(found[0], 'none')
            self.assertIs(shows_sparing(EITHER, BOTH, prices, 1, 1, 0, found), True)


if __name__ == '__main__':
    unittest.main()
