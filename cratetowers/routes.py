"""The routes of crates in the cheapest rows between two arrangements.

A row of a crate and its rest is told by two ends. An end is a place, for the tower on it, or START or GOAL, for how
these crates stand in the start or in the goal. A route is the string of the places of the crate in such a row.
"""

from cratetowers.lines import THIRDS, both_lines, first_apart, from_each_tower, turned

START = "s"
GOAL = "g"
THROUGH = "sg"


def levels_between(yard, start, goal):
    """Return the levels of the crates from the largest one on that has unlike places in two arrangements."""
    crate = first_apart(start, goal)
    if crate is None:
        return []
    reckoning = yard.reckoning()
    levels = [
        Level(reckoning.bound, *numbers)
        for numbers in zip(
            start[::-1],
            goal[::-1],
            reckoning.prices,
            reckoning.towers,
            reckoning.to_towers(start[crate + 1:]),
            reckoning.from_towers(goal[crate + 1:]),
        )
    ]
    return levels[::-1]


class Level:
    """A crate with its places in a start and a goal, its prices and the least costs of its rest between all ends."""

    def __init__(self, bound, start_place, goal_place, prices, towers, to_towers, from_towers):
        self._bound = bound
        self._places = {"a": "a", "b": "b", "c": "c", START: start_place, GOAL: goal_place}
        self._prices = prices
        self._towers = towers
        self._to_towers = from_each_tower(towers)
        self._to_towers[START] = to_towers
        self._from_towers = from_each_tower(turned(towers))
        self._from_towers[GOAL] = from_towers

    def through_cost(self):
        """Return the number for the least cost from the start to the goal, which ask for a move."""
        return min(self._lines(START, GOAL, self._places[START] + self._places[GOAL]))

    def is_way(self):
        """Tell whether a row leads from the start to the goal, which ask for a move."""
        return self.through_cost() < self._bound

    def routes(self, ends):
        """Return the routes of the cheapest rows between two ends, the straight one first."""
        first, last = ends
        here, there = self._places[first], self._places[last]
        if here == there:
            return [here]
        way = here + there
        straight, turning = self._lines(first, last, way)
        if straight < turning:
            return [way]
        over = here + THIRDS[way] + there
        return [over] if turning < straight else [way, over]

    def _lines(self, first, last, way):
        """Return the costs of the straight and of the turning line between two ends that ask for a way."""
        return both_lines(way, self._prices, self._towers, self._to_towers[first], self._from_towers[last])


def parts_of(ends, route):
    """Return the ends of the rows of the rest, one for each place on the route of a crate."""
    if len(route) == 1:
        return [ends]
    if len(route) == 2:
        over = THIRDS[route]
        return [ends[0] + over, over + ends[1]]
    # When the crate goes a way, its rest stands as the tower on the third place, here on its last one, then its first.
    return [ends[0] + route[2], route[2] + route[0], route[0] + ends[1]]
