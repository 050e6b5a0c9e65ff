"""Sets of arrangements that are told crate by crate, from the largest one on.

Which places the crates from one on may have depends on the ends from which their rows begin, and on nothing else. An
end is a bit: one for each tower, and START_BIT for how these crates stand at first. Several ends are their sum, and 0
is none. What stands below an end is a triple of ends of the smaller crates, one for each place of the crate.
"""

from cratetowers.lines import THIRDS, both_lines, first_apart, from_each_tower

START_BIT = 8
_BITS = {"a": 1, "b": 2, "c": 4}
_PLACES_OF = {1: "a", 2: "b", 4: "c"}
_ENDS = (1, 2, 4, 8)
# The costs of the rows of a rest that are left out.
_FREE = (0, 0, 0)


def all_below(branch, crate, states):
    """Return a dict from some sums of ends to what stands below each of them."""
    triples = {end: branch.below(crate, end) for end in _ENDS if any([state & end for state in states])}
    return {state: _joined([triples[end] for end in _ENDS if state & end]) for state in states}


def _joined(triples):
    """Return the triple of the ends that stand in any of some triples."""
    if len(triples) == 1:
        return triples[0]
    in_a = in_b = in_c = 0
    for at_a, at_b, at_c in triples:
        in_a, in_b, in_c = in_a | at_a, in_b | at_b, in_c | at_c
    return (in_a, in_b, in_c)


def first_of(branch, crates):
    """Return the first arrangement of a branch that is not empty, in ascending order."""
    arrangement = ""
    ends = START_BIT
    for crate in range(crates):
        triple = all_below(branch, crate, [ends])[ends]
        place, ends = [(held, below) for held, below in zip("abc", triple) if below][0]
        arrangement = arrangement + place
    return arrangement


def how_many(branch, crates):
    """Return the number of the arrangements of a branch."""
    # Each arrangement takes one path through the sums of ends, so none is counted twice.
    paths = {START_BIT: 1}
    for crate in range(crates):
        below = {}
        for state, triple in all_below(branch, crate, list(paths)).items():
            for ends in triple:
                if ends:
                    below[ends] = below.get(ends, 0) + paths[state]
        paths = below
    return sum(list(paths.values()))


class Reached:
    """The arrangements to which a row leads from one of a start."""

    def __init__(self, reckoning, starts):
        self._reckoning = reckoning
        self._starts = starts
        self._levels = reckoning.to_towers(starts)

    def below(self, crate, end):
        """Return what stands below an end: the ends from which the rest goes on, for each place of the crate."""
        rest = len(self._starts) - 1 - crate
        prices, towers = self._reckoning.prices[rest], self._reckoning.towers[rest]
        if end == START_BIT:
            places, to_towers = self._starts[crate], self._levels[rest]
        else:
            places = _PLACES_OF[end]
            to_towers = from_each_tower(towers)[places]
        found = {"a": 0, "b": 0, "c": 0}
        for here in places:
            found[here] = found[here] | end
            for way, over in THIRDS.items():
                if way[0] == here:
                    straight, turning = both_lines(way, prices, towers, to_towers, _FREE)
                    there = way[1]
                    if straight < self._reckoning.bound:
                        found[there] = found[there] | _BITS[over]
                    if turning < self._reckoning.bound:
                        found[there] = found[there] | _BITS[here]
        return (found["a"], found["b"], found["c"])


class Nearest:
    """The nearest ones to an arrangement of those that fit a goal, and the least cost to them."""

    def __init__(self, reckoning, start, goals):
        apart = first_apart(start, goals)
        if apart is None:
            apart = len(start)
        self._reckoning = reckoning
        self._start = start
        self._goals = goals
        self._to_towers = reckoning.to_towers(start[apart + 1:])[-1]
        self._from_towers = reckoning.from_towers(goals[apart + 1:])
        self.least_cost = 0 if apart == len(start) else min([line[0] for line in self._lines(apart, START_BIT)])

    def below(self, crate, end):
        """Return what stands below an end: the ends from which the rest goes on, for each place of the crate."""
        here = self._place(crate, end)
        if here in self._goals[crate]:
            # Each row in which this crate moves would be cheaper without its moves.
            return tuple([end if place == here else 0 for place in "abc"])
        lines = self._lines(crate, end)
        least = min([line[0] for line in lines])
        found = {"a": 0, "b": 0, "c": 0}
        for cost, there, last in lines:
            if cost == least:
                found[there] = found[there] | _BITS[last]
        return (found["a"], found["b"], found["c"])

    def _place(self, crate, end):
        """Return the place of a crate at an end."""
        return self._start[crate] if end == START_BIT else _PLACES_OF[end]

    def _lines(self, crate, end):
        """Return for each line to a place of the goal its cost, this place, and the last tower of its rest."""
        rest = len(self._start) - 1 - crate
        here = self._place(crate, end)
        prices, towers = self._reckoning.prices[rest], self._reckoning.towers[rest]
        to_towers = self._to_towers if end == START_BIT else from_each_tower(towers)[here]
        lines = []
        for there in self._goals[crate]:
            way = here + there
            straight, turning = both_lines(way, prices, towers, to_towers, self._from_towers[rest])
            lines.append((straight, there, THIRDS[way]))
            lines.append((turning, there, here))
        return lines
