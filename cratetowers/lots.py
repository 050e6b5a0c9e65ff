"""Lots of arrangements, and what can be come to."""

from cratetowers.arrangements import check_arrangement
from cratetowers.branches import Nearest, Reached
from cratetowers.diagrams import (
    BOTH,
    EITHER,
    NONE,
    WITHOUT,
    counts_of,
    diagram_of_branch,
    diagram_of_choices,
    joined,
)
from cratetowers.errors import InvalidCount, InvalidLot, UnlikeYards
from cratetowers.patterns import check_pattern
from cratetowers.yards import PLACES, check_yard, is_integer_within

MOST_LISTED = 1000
_EVERY = "abc"
_NOWHERE = ""
# A dict, because the operator `in` may call nothing by a name that an object holds, as NotAllowed holds an index.
_PLACE_COLUMNS = {"a": 0, "b": 1, "c": 2}


class Lot:
    """A set of arrangements of a certain number of crates; it never changes."""

    def __init__(self, crates, diagram):
        self.crates = crates
        self._diagram = diagram
        self._counts = counts_of(diagram)

    @classmethod
    def every(cls, yard):
        """Return the lot of all arrangements of a yard."""
        check_yard(yard)
        return cls(len(yard), diagram_of_choices([_EVERY] * len(yard)))

    @classmethod
    def of_pattern(cls, yard, pattern):
        """Return the lot of the arrangements that fit a pattern."""
        check_pattern(yard, pattern)
        return cls(len(yard), diagram_of_choices(pattern))

    def __contains__(self, arrangement):
        if not isinstance(arrangement, str) or len(arrangement) != self.crates or arrangement.strip(_EVERY) != "":
            return False
        # An empty lot has no nodes.
        node = 0 if self._diagram[0] else NONE
        for place, layer in zip(arrangement, self._diagram):
            node = NONE if node == NONE else layer[node][_PLACE_COLUMNS[place]]
        return node != NONE

    def __eq__(self, other):
        return isinstance(other, Lot) and self.crates == other.crates and self._diagram == other._diagram

    def count(self):
        """Return how many arrangements are in the lot."""
        return self._counts[0][0]

    def at(self, number):
        """Return the arrangement of the lot ahead of which so many others of it come."""
        if not is_integer_within(number, 0, self.count() - 1):
            raise InvalidCount(number)
        arrangement = ""
        node = 0
        left = number
        for layer, counts in zip(self._diagram, self._counts[1:]):
            for place, below in zip(PLACES, layer[node]):
                if left < counts[below]:
                    arrangement = arrangement + place
                    node = below
                    break
                left = left - counts[below]
        return arrangement

    def number(self, arrangement):
        """Return how many others of the lot come ahead of an arrangement, or None for any value that is not in it."""
        if arrangement not in self:
            return None
        number = 0
        node = 0
        for place, layer, counts in zip(arrangement, self._diagram, self._counts[1:]):
            at = _PLACE_COLUMNS[place]
            number = number + sum([counts[below] for below in layer[node][:at]])
            node = layer[node][at]
        return number

    def first(self, count):
        """Return the list of the first so many arrangements of the lot."""
        if not is_integer_within(count, 0, min(self.count(), MOST_LISTED)):
            raise InvalidCount(count)
        begun = [("", 0)] if count > 0 else []
        for layer, counts in zip(self._diagram, self._counts[1:]):
            begun = _first_followed(begun, layer, counts, count)
        return [arrangement for arrangement, _ in begun]

    def both(self, other):
        """Return the lot of the arrangements that are in both lots."""
        return self._joined(other, BOTH)

    def either(self, other):
        """Return the lot of the arrangements that are in one or both of two lots."""
        return self._joined(other, EITHER)

    def without(self, other):
        """Return the lot of the arrangements that are in this lot and not in the other one."""
        return self._joined(other, WITHOUT)

    def within(self, other):
        """Tell whether all arrangements of this lot are in the other one."""
        return self.without(other).count() == 0

    def _joined(self, other, rule):
        """Return the lot that is put together of two lots by a rule."""
        if not isinstance(other, Lot):
            raise InvalidLot(other)
        if self.crates != other.crates:
            raise UnlikeYards()
        return Lot(self.crates, joined(self._diagram, other._diagram, rule))


def _first_followed(begun, layer, counts, count):
    """Return the beginnings with one place more, no more of them than the first so many arrangements have."""
    followed = []
    many = 0
    for beginning, node in begun:
        for place, below in zip(PLACES, layer[node]):
            if below != NONE and many < count:
                followed.append((beginning + place, below))
                many = many + counts[below]
    return followed


def come_to(yard, start):
    """Return the lot of all arrangements to which a row leads from one."""
    check_arrangement(yard, start)
    return _reached(yard.reckoning(), start)


def come_from(yard, goal):
    """Return the lot of all arrangements from which a row leads to one."""
    check_arrangement(yard, goal)
    return _reached(yard.reckoning().backwards(), goal)


def both_ways(yard, start):
    """Return the lot of all arrangements to which a row leads from one, and from which one leads back."""
    return come_to(yard, start).both(come_from(yard, start))


def come_to_any(yard, pattern):
    """Return the lot of all arrangements to which a row leads from one that fits a pattern."""
    check_pattern(yard, pattern)
    return _reached(yard.reckoning(), pattern)


def _reached(reckoning, starts):
    """Return the lot of all arrangements to which a row leads from a start."""
    return Lot(len(starts), diagram_of_branch(Reached(reckoning, starts), len(starts)))


def nearest_lot(yard, start, pattern):
    """Return the lot of the arrangements that fit a pattern and have the least cost from one."""
    check_arrangement(yard, start)
    check_pattern(yard, pattern)
    reckoning = yard.reckoning()
    found = Nearest(reckoning, start, pattern)
    if reckoning.told(found.least_cost) is None:
        return Lot(len(yard), diagram_of_choices([_NOWHERE] * len(yard)))
    return Lot(len(yard), diagram_of_branch(found, len(yard)))
