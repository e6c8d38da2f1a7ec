"""The cheapest watch with which a bound can be held, of a watch and all coarser ones."""

from seldomseen.common import is_integer, is_integer_in
from seldomseen.errors import BadPrices
from seldomseen.holding import check_question, hold, shows_book, shows_posts
from seldomseen.watches import check_watch, coarser, is_watch

MOST_PRICE = 99


def check_spared(machine, watch, prices, a, b, d):
    """Raise BadWatch, BadPrices, BadWeight for a, then for b, and BadBound."""
    check_watch(machine, watch)
    if not isinstance(prices, tuple) or len(prices) != len(machine.pages):
        raise BadPrices(prices)
    if not all([is_integer_in(price, 0, MOST_PRICE) for price in prices]):
        raise BadPrices(prices)
    check_question(machine, watch, a, b, d)


def cost_of_watch(machine, prices, watch):
    """The prices of all pages that a watch sees, at each place."""
    price_of = {page: price for page, price in zip(machine.pages, prices)}
    return sum([price_of[page] for watched in watch for page in watched])


def parts_of(pages):
    """All ascending tuples of some of these pages, perhaps of none."""
    found = [()]
    for page in pages:
        found = found + [(*part, page) for part in found]
    return found


def costly_watches(machine, watch, prices):
    """(cost, watch) of a watch and all coarser ones, in the order in which they are compared."""
    found = [()]
    for watched in watch:
        found = [(*other, part) for other in found for part in parts_of(watched)]
    return sorted([(cost_of_watch(machine, prices, other), other) for other in found])


def sparing(machine, watch, prices, a, b, d):
    """("watch", cost, watch, posts, rows): the first watch that holds d; ("none", rows) without one."""
    check_spared(machine, watch, prices, a, b, d)
    rows = []
    for cost, other in costly_watches(machine, watch, prices):
        told = hold(machine, other, a, b, d)
        if told[0] == "holds":
            return ("watch", cost, other, told[2], tuple(rows))
        rows.append((other, told[1]))
    return ("none", tuple(rows))


def is_breaking_row(machine, watch, a, b, d, value):
    """Whether a value is (watch, book): a watch that is no finer than this one, and a book that breaks d for it."""
    if not isinstance(value, tuple) or len(value) != 2:
        return False
    other, book = value
    return is_watch(machine, other) and coarser(machine, other, watch) and shows_book(machine, other, a, b, d, book)


def are_broken(machine, watch, a, b, d, rows, ahead):
    """Whether rows break d for watches so that each of these watches is one of them, or coarser than one."""
    if not isinstance(rows, tuple) or not all([is_breaking_row(machine, watch, a, b, d, row) for row in rows]):
        return False
    return all([any([coarser(machine, other, broken) for broken, book in rows]) for other in ahead])


def shows_sparing(machine, watch, prices, a, b, d, value):
    """Whether a value shows, as that of sparing does, which watch is the cheapest one, or that there is none."""
    check_spared(machine, watch, prices, a, b, d)
    if not isinstance(value, tuple):
        return False
    ordered = costly_watches(machine, watch, prices)
    if len(value) == 2 and value[0] == "none":
        return are_broken(machine, watch, a, b, d, value[1], [other for cost, other in ordered])
    if len(value) != 5 or value[0] != "watch" or not is_integer(value[1]) or (value[1], value[2]) not in ordered:
        return False
    _, cost, chosen, posts, rows = value
    ahead = [other for other in ordered if other < (cost, chosen)]
    if not are_broken(machine, watch, a, b, d, rows, [other for least, other in ahead]):
        return False
    return shows_posts(machine, chosen, a, b, d, posts)
