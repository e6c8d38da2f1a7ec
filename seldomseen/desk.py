"""A desk: asks a keeper by lines, and answers by lines."""

from seldomseen.bounds import bound
from seldomseen.common import is_name
from seldomseen.errors import BadLine
from seldomseen.texts import is_number, line_of, show_journal, told_marks


def span_of(pair):
    """(least, greatest) as an answer."""
    least, greatest = pair
    return f"{least}..{greatest}"


def answer_set(keeper):
    """The set now."""
    return line_of(keeper.now)


def answer_turn(keeper):
    """The number of the turn under way."""
    return str(keeper.turn)


def answer_paid(keeper):
    """What was paid for moves."""
    return str(keeper.paid)


def answer_undo(keeper):
    """What is undone."""
    return keeper.undo()


def answer_slow(keeper):
    """How many touches were slow."""
    return span_of(keeper.slow())


def answer_warmest(keeper):
    """The pages that may be the warmest."""
    return line_of([page for page, run in keeper.warmest()])


def answer_journal(keeper):
    """The marks that were seen."""
    if len(keeper.journal) == 0:
        return "-"
    text = show_journal(keeper.rule.machine, keeper.rule.watch, keeper.journal)
    return text.replace("\n", "; ")


def answer_touches(keeper, page):
    """How often the page was touched."""
    return span_of(keeper.touches(page))


def answer_age(keeper, page):
    """How long ago the page was touched last."""
    return span_of(keeper.age(page))


def answer_see(keeper, marks):
    """The next set, behind these marks."""
    return line_of(keeper.see(marks))


def answer_bound(keeper, a, b):
    """The bound of the rule now."""
    told = bound(keeper.rule, a, b)
    if told[0] == "most":
        return f"most {told[1]}"
    return "grows"


# What is answered to one word, and to a word and a page.
WORDS = {
    "undo": answer_undo, "set": answer_set, "turn": answer_turn, "paid": answer_paid, "slow": answer_slow,
    "warmest": answer_warmest, "journal": answer_journal}
PAGE_WORDS = {"touches": answer_touches, "age": answer_age}


class Desk:
    """Takes lines for a keeper."""

    def __init__(self, keeper):
        self._keeper = keeper

    @property
    def keeper(self):
        """The keeper that is asked."""
        return self._keeper

    def say(self, line):
        """The answer to a line."""
        words = line.split(" ") if isinstance(line, str) else []
        if len(words) == 1 and words[0] in WORDS:
            answer = WORDS[words[0]]
            return answer(self._keeper)
        if len(words) == 2 and words[0] in PAGE_WORDS and is_name(words[1]):
            answer = PAGE_WORDS[words[0]]
            return answer(self._keeper, words[1])
        if len(words) == 3 and words[0] == "bound" and is_number(words[1]) and is_number(words[2]):
            return answer_bound(self._keeper, int(words[1]), int(words[2]))
        if words[:1] == ["see"]:
            marks = told_marks(words[1:])
            if marks is not None:
                return answer_see(self._keeper, marks)
        raise BadLine(line)
