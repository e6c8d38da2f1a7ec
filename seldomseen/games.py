"""The game of someone who sees marks alone: which cases can come, and which of them exceed a bound whatever is done.

Cases have numbers, 0 that of the beginning.
"""

from seldomseen.common import place_of
from seldomseen.errors import TooMany
from seldomseen.knowing import as_knowledge, ends_by_marks, excesses_behind, known_beginning, peak_of

MOST_CASES = 300


class Game:
    """All cases that can come if no excess is to be above most; raises TooMany.

    cases has the cases, peaks what peak_of tells of each, turns a dict for each: for all marks that can be seen behind
    the turn the numbers of the cases that come of the machine's sets. Nothing comes of a case that exceeds most.
    """

    def __init__(self, machine, watch, weights, most):
        self.cases = [(0, machine.first, known_beginning(machine))]
        self.peaks = []
        self.turns = []
        numbers = {self.cases[0]: 0}
        counted = 0
        while len(self.turns) < len(self.cases):
            case = self.cases[len(self.turns)]
            peak = peak_of(machine, weights, case)
            comes = {}
            if peak is None or peak[0] <= most:
                counted += 1
                if counted > MOST_CASES:
                    raise TooMany(MOST_CASES)
                comes = cases_behind(machine, watch, weights, case)
            self.peaks.append(peak)
            self.turns.append({marks: self._numbered(numbers, found) for marks, found in comes.items()})

    def _numbered(self, numbers, found):
        # The numbers of these cases, new ones for those that did not come so far.
        for case in found:
            if case not in numbers:
                numbers[case] = len(self.cases)
                self.cases.append(case)
        return tuple([numbers[case] for case in found])


def cases_behind(machine, watch, weights, case):
    """For all marks that can be seen behind the turn the cases that come of the machine's sets, in their order."""
    place, own, knowledge = case
    behind = place_of(machine, place + 1)
    found = {}
    for marks, ends in ends_by_marks(machine, watch, weights, case).items():
        found[marks] = [
            (behind, chosen, as_knowledge(excesses_behind(machine, weights, own, chosen, ends)))
            for chosen in machine.sets]
    return found


def lost_cases(game, d):
    """The cases that exceed d, whatever is done: a dict with their numbers, and the marks behind which they do.

    None stands for marks where a case does so at once. Those behind the marks are in the dict ahead of the case.
    """
    lost = {number: None for number, peak in enumerate(game.peaks) if peak is not None and peak[0] > d}
    many = 0
    while many < len(lost):
        many = len(lost)
        for number, turns in enumerate(game.turns):
            if number not in lost:
                bad = [marks for marks, behind in turns.items() if all([after in lost for after in behind])]
                if bad:
                    lost[number] = bad[0]
    return lost
