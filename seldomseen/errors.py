"""The errors that this package raises, each with the value that it is about."""


class SeldomError(ValueError):
    """What all errors of this package are; value is what the error is about."""

    def __init__(self, value):
        self.value = value


class BadSteps(SeldomError):
    """What was passed as steps is no tuple of steps of a machine."""


class BadClock(SeldomError):
    """What was passed as clock is no tuple of ticks of turns."""


class BadPages(SeldomError):
    """What was passed as pages is no tuple of pages of these steps."""


class BadMove(SeldomError):
    """What was passed as move is no price of a move."""


class BadSet(SeldomError):
    """What was passed as first is no set of these pages."""


class NoStep(SeldomError):
    """The machine has no step of this name."""


class BadLength(SeldomError):
    """No runs of this length are generated."""


class BadRun(SeldomError):
    """The machine has no such run."""


class BadSets(SeldomError):
    """There is no such row of sets."""


class BadWatch(SeldomError):
    """The machine has no such watch."""


class BadJournal(SeldomError):
    """The watch has no such journal."""


class BadTick(SeldomError):
    """The journal has no tick of this number."""


class NoPage(SeldomError):
    """The machine has no such page."""


class BadRange(SeldomError):
    """No range of ticks begins or ends so."""


class BadStates(SeldomError):
    """These are no states of a rule."""


class OtherMachine(SeldomError):
    """This is another machine."""


class BadWeight(SeldomError):
    """This is no weight."""


class BadBound(SeldomError):
    """This is no bound."""


class TooMany(SeldomError):
    """More than this number would have to be looked at."""


class BadPrices(SeldomError):
    """These are no prices of the pages."""


class BadMarks(SeldomError):
    """These are no marks of the turn under way."""


class Stuck(SeldomError):
    """No run fits behind the turn of this number."""


class TooLong(SeldomError):
    """This number of turns was seen; a keeper sees no more."""


class OtherWatch(SeldomError):
    """This is another watch."""


class NoState(SeldomError):
    """The rule has no state of this number at the place under way."""


class OtherSet(SeldomError):
    """The state's set is not the set now."""


class NothingToUndo(SeldomError):
    """Nothing was done that is not undone."""


class Nothing(SeldomError):
    """Nothing was seen so far."""


class BadText(SeldomError):
    """The text's line of this number has not its form."""


class BadLine(SeldomError):
    """A desk takes no such line."""
