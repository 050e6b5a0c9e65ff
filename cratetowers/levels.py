"""Least costs from tower to tower, level by level, and the papers that show them."""

from cratetowers.errors import InvalidPaper
from cratetowers.lines import both_lines, from_each_tower, towers_above, turned
from cratetowers.papers import are_levels, are_within, bound_beyond, bounded_prices, numbers_of
from cratetowers.yards import COLUMNS, WAYS, check_way, check_yard


def tables(yard):
    """Return the least costs from tower to tower, for no crates, the smallest one and so on up to all."""
    check_yard(yard)
    reckoning = yard.reckoning()
    return [reckoning.named(WAYS, towers) for towers in reckoning.towers]


def tower_cost(yard, way):
    """Return the least cost for all crates from tower to tower, None if no row leads there."""
    check_yard(yard)
    check_way(way)
    reckoning = yard.reckoning()
    return reckoning.told(reckoning.towers[-1][COLUMNS[way]])


def is_paper(yard, value):
    """Tell whether any value is a paper of a yard."""
    check_yard(yard)
    return are_levels(value, len(yard) + 1, WAYS) and _are_within_lines(yard, value)


def _are_within_lines(yard, paper):
    """Tell whether no number of a paper is greater than a line made of the dict ahead of it."""
    bound = bound_beyond(yard, [paper])
    levels = numbers_of(paper, WAYS, bound)
    prices = bounded_prices(yard, bound)
    return are_within(levels, [towers_above(six, below) for six, below in zip(prices, levels)])


def told_cost(yard, paper, way):
    """Return what the last dict of a paper has for a way."""
    if not is_paper(yard, paper):
        raise InvalidPaper(paper)
    check_way(way)
    return paper[-1][way]


def straight_ways(yard):
    """Return, for each crate, the ways on which it moves just once in some cheapest row from tower to tower."""
    check_yard(yard)
    reckoning = yard.reckoning()
    ways = [
        _straight_ways(prices, towers, reckoning.bound)
        for prices, towers in zip(reckoning.prices, reckoning.towers)
    ]
    return ways[::-1]


def _straight_ways(prices, towers, bound):
    """Return the ways on which the straight line of a crate is as cheap as can be."""
    to_towers = from_each_tower(towers)
    from_towers = from_each_tower(turned(towers))
    ways = []
    for way in WAYS:
        straight, turning = both_lines(way, prices, towers, to_towers[way[0]], from_towers[way[1]])
        if straight < bound and straight <= turning:
            ways.append(way)
    return ways
