"""Least costs from tower to tower, level by level, and the papers that show them."""

from cratetowers.errors import InvalidPaper
from cratetowers.lines import are_levels, are_within_lines, cost_levels, is_at_most, line_cost, routes_of
from cratetowers.yards import WAYS, check_way, check_yard


def tables(yard):
    """Return the least costs from tower to tower, for no crates, the smallest one and so on up to all."""
    check_yard(yard)
    return cost_levels(yard, WAYS)


def tower_cost(yard, way):
    """Return the least cost for all crates from tower to tower, None if no row leads there."""
    check_yard(yard)
    check_way(way)
    return tables(yard)[-1][way]


def is_paper(yard, value):
    """Tell whether any value is a paper of a yard."""
    check_yard(yard)
    return are_levels(value, len(yard) + 1, WAYS) and are_within_lines(yard, WAYS, value)


def told_cost(yard, paper, way):
    """Return what the last dict of a paper has for a way."""
    if not is_paper(yard, paper):
        raise InvalidPaper(paper)
    check_way(way)
    return paper[-1][way]


def straight_ways(yard):
    """Return, for each crate, the ways on which it moves just once in some cheapest row from tower to tower."""
    levels = tables(yard)
    return [
        [way for way in WAYS if _may_go_straight(yard, crate, way, levels[len(yard) - 1 - crate])]
        for crate in range(len(yard))
    ]


def _may_go_straight(yard, crate, way, below):
    """Tell whether the straight line of a crate is as cheap as can be."""
    straight, turning = [line_cost(yard, crate, way, route, below) for route in routes_of(crate, way)]
    return straight is not None and is_at_most(straight, turning)
