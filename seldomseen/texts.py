"""Machines, watches, journals and rules as texts, and read from them."""

from seldomseen.common import is_name
from seldomseen.errors import BadText
from seldomseen.journals import check_journal
from seldomseen.machines import Machine
from seldomseen.rules import Rule
from seldomseen.watches import check_watch

DIGITS = "0123456789"
MOST_DIGITS = 18

# For no page, no pages.
NONE = "-"

MARKS = {"+": True, "-": False}


def is_number(word):
    """Whether a word is a number by its form."""
    digits = word[1:] if word.startswith("-") else word
    if not 1 <= len(digits) <= MOST_DIGITS or not all([digit in DIGITS for digit in digits]):
        return False
    return word == "0" or digits[0] != "0"


def told_marks(words):
    """The marks that words tell, perhaps none; None of words that are no marks."""
    if not all([word in MARKS for word in words]):
        return None
    return tuple([MARKS[word] for word in words])


def told_names(head, words):
    """The names behind the first word, which is head; None of what has not this form. At least one stands there."""
    if len(words) < 2 or words[0] != head or not all([is_name(word) for word in words[1:]]):
        return None
    return tuple(words[1:])


def told_numbers(head, words):
    """The numbers behind the first word, which is head; None of what has not this form. At least one stands there."""
    if len(words) < 2 or words[0] != head or not all([is_number(word) for word in words[1:]]):
        return None
    return tuple([int(word) for word in words[1:]])


def told_step(words):
    """The step that the words of a line tell, None of what has not its form."""
    if len(words) < 4 or words[0] != "step" or words[3] != ">":
        return None
    name, page = words[1:3]
    if not is_name(name) or not (page == NONE or is_name(page)) or not all([is_name(word) for word in words[4:]]):
        return None
    return (name, None if page == NONE else page, tuple(words[4:]))


def told_clock(words):
    """The clock that the words of a line tell, None of what has not its form."""
    return told_numbers("clock", words)


def told_pages(words):
    """The pages that the words of a line tell, None of what has not its form."""
    return told_names("pages", words)


def told_move(words):
    """The price of a move that the words of a line tell, None of what has not its form."""
    prices = told_numbers("move", words)
    if prices is None or len(prices) > 1:
        return None
    return prices[0]


def told_first(words):
    """The first set that the words of a line tell, None of what has not its form."""
    return told_names("first", words)


def told_watched(words):
    """The pages watched at a place that the words of a line tell, None of what has not its form."""
    if words == ["watch", NONE]:
        return ()
    return told_names("watch", words)


def told_seen(words):
    """The marks that the words of a line tell, None of what has not its form."""
    if words[:1] != ["seen"]:
        return None
    return told_marks(words[1:])


def told_state(words):
    """The state that the words of a line tell, None of what has not its form."""
    if ">" not in words:
        return None
    at = words.index(">")
    answers = told_numbers(">", words[at:])
    pages = told_names("state", words[:1] + words[2:at])
    if answers is None or pages is None or not is_number(words[1]):
        return None
    return (int(words[1]), pages, answers)


# The lines of a text, sort by sort, and whether there may be several of a sort.
MACHINE = ((told_step, True), (told_clock, False), (told_pages, False), (told_move, False), (told_first, False))
WATCH = ((told_watched, True),)
JOURNAL = ((told_seen, True),)
RULE = ((told_state, True),)


def told_by(text, sorts):
    """What the lines of a text tell, a list for each sort of lines; raises BadText."""
    if not isinstance(text, str):
        raise BadText(0)
    lines = text.split("\n")
    found = []
    at = 0
    for told_line, several in sorts:
        told = []
        while at < len(lines) and (several or len(told) == 0):
            # Blanks that are too many make empty words, which no line has.
            value = told_line(lines[at].split(" "))
            if value is None:
                break
            told.append(value)
            at += 1
        if len(told) == 0:
            raise BadText(at)
        found.append(told)
    if at < len(lines):
        raise BadText(at)
    return found


def line_of(words):
    """Words and numbers as a line."""
    return " ".join([str(word) for word in words])


def show_step(step):
    """The line of a step."""
    name, page, following = step
    return line_of(["step", name, NONE if page is None else page, ">"] + list(following))


def show_machine(machine):
    """A machine as a text."""
    lines = [show_step(step) for step in machine.steps]
    lines.append(line_of(["clock"] + list(machine.clock)))
    lines.append(line_of(["pages"] + list(machine.pages)))
    lines.append(line_of(["move", machine.move]))
    lines.append(line_of(["first"] + list(machine.first)))
    return "\n".join(lines)


def show_watch(machine, watch):
    """A watch as a text."""
    check_watch(machine, watch)
    return "\n".join([line_of(["watch"] + (list(watched) or [NONE])) for watched in watch])


def show_journal(machine, watch, journal):
    """A journal as a text."""
    check_journal(machine, watch, journal)
    return "\n".join([line_of(["seen"] + ["+" if mark else "-" for mark in marks]) for marks in journal])


def show_rule(rule):
    """A rule as a text."""
    return "\n".join([line_of(["state", place] + list(chosen) + [">"] + list(answers))
                      for place, chosen, answers in rule.states])


def read_machine(text):
    """The machine that a text tells."""
    steps, clocks, pages, moves, firsts = told_by(text, MACHINE)
    return Machine(tuple(steps), clocks[0], pages[0], moves[0], firsts[0])


def read_watch(machine, text):
    """The watch of a machine that a text tells."""
    watch = tuple(told_by(text, WATCH)[0])
    check_watch(machine, watch)
    return watch


def read_journal(machine, watch, text):
    """The journal of a watch that a text tells."""
    check_watch(machine, watch)
    journal = tuple(told_by(text, JOURNAL)[0])
    check_journal(machine, watch, journal)
    return journal


def read_rule(machine, watch, text):
    """The rule that a text tells, for a watch of a machine."""
    check_watch(machine, watch)
    return Rule(machine, watch, tuple(told_by(text, RULE)[0]))
