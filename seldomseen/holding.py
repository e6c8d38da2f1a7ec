"""What a watch can hold: posts, by which a rule that sees its marks stays within a bound, or a book that breaks all."""

from seldomseen.common import is_integer_in, place_of
from seldomseen.errors import BadBound
from seldomseen.gains import check_weights, gain_within
from seldomseen.games import Game, lost_cases
from seldomseen.journals import are_marks
from seldomseen.knowing import ends_by_marks, excesses_behind, is_knowledge, known_beginning, peak_of
from seldomseen.rules import Rule, are_linked, rank_of
from seldomseen.watches import all_marks, check_watch
from seldomseen.ways import names_into

MOST_WEIGHT = 3
MOST_BOUND = 6


def check_question(machine, watch, a, b, d):
    """Raise BadWatch, BadWeight for a, then for b, and BadBound."""
    check_watch(machine, watch)
    check_weights(a, b, MOST_WEIGHT)
    if not is_integer_in(d, 0, MOST_BOUND):
        raise BadBound(d)


def answered_cases(game, lost):
    """(numbers, told): the cases to which good answers lead from case 0 on, and for each a dict of these answers."""
    numbers = [0]
    told = []
    while len(told) < len(numbers):
        answers = {}
        for marks, behind in game.turns[numbers[len(told)]].items():
            good = [after for after in behind if after not in lost]
            # One that is there already spares another post.
            there = [after for after in good if after in numbers]
            answers[marks] = (there or good)[0]
            if answers[marks] not in numbers:
                numbers.append(answers[marks])
        told.append(answers)
    return (numbers, told)


def posts_of(machine, watch, game, lost):
    """The posts of someone who goes from good cases to good ones."""
    numbers, told = answered_cases(game, lost)
    cases = [game.cases[number] for number in numbers]
    rows = [{marks: numbers.index(after) for marks, after in answers.items()} for answers in told]
    for place in range(len(machine.clock)):
        # Marks that cannot come are answered, too, where no run comes to the next place.
        if place not in [case[0] for case in cases]:
            cases.append((place, machine.first, ()))
            rows.append({})
    places = [case[0] for case in cases]
    posts = []
    for (place, own, knowledge), row in zip(cases, rows):
        other = places.index(place_of(machine, place + 1))
        posts.append((place, own, knowledge, tuple([row.get(marks, other) for marks in all_marks(watch[place])])))
    return tuple(posts)


def book_of(game, lost):
    """The book that shows that case 0 is lost: each leaf stands behind those that it names."""
    needed = {0: True}
    for number in reversed(list(lost)):
        if number in needed and lost[number] is not None:
            for after in game.turns[number][lost[number]]:
                needed[after] = True
    at = {}
    leaves = []
    for number, marks in lost.items():
        if number in needed:
            if marks is None:
                excess, row, steps = game.peaks[number]
                ways = ("breaks", row, steps)
            else:
                ways = ("whatever", marks, tuple([at[after] for after in game.turns[number][marks]]))
            at[number] = len(leaves)
            place, own, knowledge = game.cases[number]
            leaves.append((place, own, knowledge, ways))
    return tuple(leaves)


def hold(machine, watch, a, b, most):
    """("holds", d, posts, book) with the least d up to most that can be held; else ("breaks", book)."""
    check_question(machine, watch, a, b, most)
    game = Game(machine, watch, (a, b), most)
    book = None
    for d in range(most + 1):
        lost = lost_cases(game, d)
        if 0 not in lost:
            return ("holds", d, posts_of(machine, watch, game, lost), book)
        book = book_of(game, lost)
    return ("breaks", book)


def are_posts(machine, watch, weights, value):
    """Whether a value has the form of posts, the first one of the beginning."""
    if not isinstance(value, tuple) or not all([isinstance(post, tuple) and len(post) == 4 for post in value]):
        return False
    if not are_linked(machine, watch, tuple([(place, own, answers) for place, own, knowledge, answers in value])):
        return False
    if not all([is_knowledge(machine, weights, knowledge) for place, own, knowledge, answers in value]):
        return False
    return has_each(value[0][2], known_beginning(machine))


def has_each(knowledge, rows):
    """Whether a knowledge has each of these rows, with at least its excess."""
    excesses = {stand: excess for stand, excess in knowledge}
    return all([stand in excesses and excesses[stand] >= excess for stand, excess in rows])


def keeps_post(machine, watch, weights, d, posts, post):
    """Whether no tick behind a post exceeds d, and all that comes is in the knowledge of the posts that answer."""
    place, own, knowledge, answers = post
    case = (place, own, knowledge)
    peak = peak_of(machine, weights, case)
    if peak is not None and peak[0] > d:
        return False
    for marks, ends in ends_by_marks(machine, watch, weights, case).items():
        _, chosen, known, _ = posts[answers[rank_of(marks)]]
        if not has_each(known, list(excesses_behind(machine, weights, own, chosen, ends).items())):
            return False
    return True


def shows_posts(machine, watch, a, b, d, value):
    """Whether a value is posts that hold d."""
    check_question(machine, watch, a, b, d)
    if not are_posts(machine, watch, (a, b), value):
        return False
    return all([keeps_post(machine, watch, (a, b), d, value, post) for post in value])


def is_leaf(machine, weights, value):
    """Whether a value has the form (place, set, knowledge, (word, any, any))."""
    if not isinstance(value, tuple) or len(value) != 4:
        return False
    place, own, knowledge, ways = value
    if not is_integer_in(place, 0, len(machine.clock) - 1) or own not in machine.sets:
        return False
    return isinstance(ways, tuple) and len(ways) == 3 and is_knowledge(machine, weights, knowledge)


def breaks(machine, weights, d, leaf):
    """Whether the steps that a leaf names lead from its row above d."""
    place, own, knowledge, (_, number, steps) = leaf
    if not is_integer_in(number, 0, len(knowledge) - 1):
        return False
    (step, pages, other), excess = knowledge[number]
    if steps not in names_into(machine, machine.clock[place], step):
        return False
    return excess + gain_within(machine, weights, steps, own, other) > d


def names_earlier(machine, earlier, place, numbers):
    """Whether numbers are those of earlier leaves of the next place, one with each set."""
    if not isinstance(numbers, tuple) or len(numbers) != len(machine.sets):
        return False
    if not all([is_integer_in(number, 0, len(earlier) - 1) for number in numbers]):
        return False
    behind = place_of(machine, place + 1)
    return all([earlier[number][:2] == (behind, chosen) for number, chosen in zip(numbers, machine.sets)])


def leads_back(machine, watch, weights, earlier, leaf):
    """Whether the marks that a leaf names lead, whatever set comes next, to all that an earlier leaf knows."""
    place, own, knowledge, (_, marks, numbers) = leaf
    if not are_marks(watch[place], marks) or not names_earlier(machine, earlier, place, numbers):
        return False
    ends = ends_by_marks(machine, watch, weights, (place, own, knowledge)).get(marks, {})
    for number in numbers:
        _, chosen, known, _ = earlier[number]
        excesses = excesses_behind(machine, weights, own, chosen, ends)
        if not all([stand in excesses and excess <= excesses[stand] for stand, excess in known]):
            return False
    return True


def keeps_leaf(machine, watch, weights, d, earlier, leaf):
    """Whether a leaf, by its form such, breaks d, or leads back to earlier ones."""
    word = leaf[3][0]
    if word == "breaks":
        return breaks(machine, weights, d, leaf)
    return word == "whatever" and leads_back(machine, watch, weights, earlier, leaf)


def shows_book(machine, watch, a, b, d, value):
    """Whether a value is a book that shows that no rule that sees these marks holds d."""
    check_question(machine, watch, a, b, d)
    weights = (a, b)
    if not isinstance(value, tuple) or len(value) == 0 or not all([is_leaf(machine, weights, leaf) for leaf in value]):
        return False
    if value[-1][:3] != (0, machine.first, known_beginning(machine)):
        return False
    return all([keeps_leaf(machine, watch, weights, d, value[:at], leaf) for at, leaf in enumerate(value)])


def rule_of(machine, watch, posts):
    """The rule that has the places, sets and answers of posts."""
    return Rule(machine, watch, tuple([(place, own, answers) for place, own, knowledge, answers in posts]))
