"""How high walks over stands climb, what shows it, and the rings in which they climb again and again.

A stand is where a walk is at the beginning of a turn, as a tuple. What walks there are is told by an object with these
methods: begin() is the stand where walks begin, at 0; turns_from(stand) are (names, stand, gain) of the turns from a
stand, with the names of their steps; begins_anew(stand) tells whether walks that come to a stand may begin there, at 0;
peak_at(stand) is (gain, names) of the highest tick in the turn from a stand, None if there is no tick; is_stand(value)
tells whether a value has the form of a stand.

Ways are a dict with the (stand, names) from which one comes to each stand, None where a way begins.
"""

from seldomseen.common import is_ascending, is_integer


def back_from(ways, stand, goal):
    """(stands, names) of the way to a stand from where it begins, or from the goal if the way comes by there."""
    stands = [stand]
    parts = []
    while ways[stands[-1]] is not None:
        ahead, names = ways[stands[-1]]
        stands.append(ahead)
        parts.append(names)
        if ahead == goal:
            break
    return (stands[::-1], tuple([name for names in reversed(parts) for name in names]))


def way_to(ways, stand):
    """(stands, names) of the whole way to a stand that is on no ring."""
    return back_from(ways, stand, None)


def ring_of(ways, stand):
    """(stands, names) of the ring on the ways from a stand to itself, which is at both ends."""
    return back_from(ways, stand, stand)


def on_ring(ways, stands):
    """A stand to which a way comes back, of the ways to these stands; None without one."""
    met = {}
    for start in stands:
        stand = start
        while stand not in met:
            met[stand] = start
            if ways[stand] is None:
                break
            stand = ways[stand][0]
        else:
            # Ways that come to what another one met were looked at then.
            if met[stand] == start:
                return stand
    return None


class Climb:
    """All walks. heights has for each stand the greatest sum of gains, highest the ways that have it.

    reached has the first way that was found from the beginning to each stand. ring is None, or a stand to which highest
    comes back: each round gains, and so no height is the greatest.
    """

    def __init__(self, walks):
        begin = walks.begin()
        self.heights = {begin: 0}
        self.highest = {begin: None}
        self.reached = {begin: None}
        self.ring = None
        turns = {}
        changed = [begin]
        while changed and self.ring is None:
            higher = {}
            for stand in changed:
                if stand not in turns:
                    turns[stand] = walks.turns_from(stand)
                for names, after, gain in turns[stand]:
                    if self._goes_higher(walks, stand, names, after, gain):
                        higher[after] = True
            changed = list(higher)
            self.ring = on_ring(self.highest, changed)

    def _goes_higher(self, walks, stand, names, after, gain):
        # Whether this turn leads to a stand for the first time, or higher there.
        new = after not in self.reached
        if new:
            self.reached[after] = (stand, names)
            if walks.begins_anew(after):
                self.heights[after] = 0
                self.highest[after] = None
        height = self.heights[stand] + gain
        if after in self.heights and height <= self.heights[after]:
            return new
        self.heights[after] = height
        self.highest[after] = (stand, names)
        return True


def top_of(walks, climb):
    """(height, stand, names): the greatest height at any tick, the stand and the steps behind it that lead there."""
    found = []
    for stand, height in climb.heights.items():
        peak = walks.peak_at(stand)
        if peak is not None:
            found.append((height + peak[0], stand, peak[1]))
    return max(found, key=lambda top: top[0])


def place_in_table(stand):
    """By what the stands of a table ascend: None stands ahead of all names, as the empty string does."""
    return tuple(["" if part is None else part for part in stand])


def table_of(climb):
    """The greatest heights, ascending by the stands."""
    return tuple([(stand, climb.heights[stand]) for stand in sorted(list(climb.heights), key=place_in_table)])


def is_row(walks, value):
    """Whether a value has the form (stand, height)."""
    return isinstance(value, tuple) and len(value) == 2 and walks.is_stand(value[0]) and is_integer(value[1])


def keeps_row(walks, d, heights, stand):
    """Whether no tick behind a stand is above d, and its turns lead to stands that are as high as they have to be."""
    peak = walks.peak_at(stand)
    if peak is not None and heights[stand] + peak[0] > d:
        return False
    for names, after, gain in walks.turns_from(stand):
        if after not in heights or heights[after] < heights[stand] + gain:
            return False
        if walks.begins_anew(after) and heights[after] < 0:
            return False
    return True


def is_table(walks, d, value):
    """Whether a value is a table that shows that no tick of any walk is above d."""
    if not isinstance(value, tuple) or not all([is_row(walks, row) for row in value]):
        return False
    if not is_ascending([place_in_table(stand) for stand, height in value]):
        return False
    heights = {stand: height for stand, height in value}
    begin = walks.begin()
    if begin not in heights or heights[begin] < 0:
        return False
    return all([keeps_row(walks, d, heights, stand) for stand in heights])
