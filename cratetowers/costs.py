"""Least costs between any two arrangements, and the papers that show them."""

from cratetowers.arrangements import check_arrangement
from cratetowers.errors import InvalidPaper
from cratetowers.levels import is_paper
from cratetowers.lines import (
    ALL_ENDS,
    FROM_TOWERS,
    GOAL,
    START,
    THROUGH,
    TO_TOWERS,
    are_levels,
    are_within_lines,
    cost_levels,
    least_line,
    routes_of,
)
from cratetowers.yards import PLACES, WAYS


def to_towers(yard, start):
    """Return the least costs from an arrangement to the three towers."""
    check_arrangement(yard, start)
    last = cost_levels(yard, WAYS + TO_TOWERS, start=start)[-1]
    return {place: last[START + place] for place in PLACES}


def from_towers(yard, goal):
    """Return the least costs from the three towers to an arrangement."""
    check_arrangement(yard, goal)
    last = cost_levels(yard, WAYS + FROM_TOWERS, goal=goal)[-1]
    return {place: last[place + GOAL] for place in PLACES}


def least(yard, start, goal):
    """Return the least cost from one arrangement to another one, None if no row leads there."""
    _check_both(yard, start, goal)
    return cost_levels(yard, ALL_ENDS, start, goal)[-1][THROUGH]


def largest_moving(yard, start, goal):
    """Return the largest crate that has unlike places in two arrangements, or None."""
    _check_both(yard, start, goal)
    unlike = [crate for crate in range(len(yard)) if start[crate] != goal[crate]]
    return unlike[0] if unlike else None


def paper(yard, start, goal):
    """Return the paper for two arrangements that has the greatest numbers."""
    _check_both(yard, start, goal)
    levels = cost_levels(yard, ALL_ENDS, start, goal)
    return (
        [{way: level[way] for way in WAYS} for level in levels],
        [{place: level[START + place] for place in PLACES} for level in levels],
        [{place: level[place + GOAL] for place in PLACES} for level in levels],
    )


def is_cost_paper(yard, start, goal, value):
    """Tell whether any value is a paper for two arrangements."""
    _check_both(yard, start, goal)
    return (
        isinstance(value, tuple)
        and len(value) == 3
        and is_paper(yard, value[0])
        and are_levels(value[1], len(yard) + 1, PLACES)
        and are_levels(value[2], len(yard) + 1, PLACES)
        and are_within_lines(yard, TO_TOWERS + FROM_TOWERS, _levels_of(value), start, goal)
    )


def shown_cost(yard, start, goal, paper):
    """Return what a paper for two arrangements tells of the cost between them."""
    if not is_cost_paper(yard, start, goal, paper):
        raise InvalidPaper(paper)
    crate = largest_moving(yard, start, goal)
    if crate is None:
        return 0
    below = _levels_of(paper)[len(yard) - 1 - crate]
    return least_line(yard, crate, THROUGH, routes_of(crate, THROUGH, start, goal), below)


def _check_both(yard, start, goal):
    """Raise InvalidYard, and InvalidArrangement for the start and then for the goal."""
    check_arrangement(yard, start)
    check_arrangement(yard, goal)


def _levels_of(lists):
    """Return the levels that the three lists of a paper make together."""
    levels = []
    for table, to_places, from_places in zip(lists[0], lists[1], lists[2]):
        level = {way: table[way] for way in WAYS}
        for place in PLACES:
            level[START + place] = to_places[place]
            level[place + GOAL] = from_places[place]
        levels.append(level)
    return levels
