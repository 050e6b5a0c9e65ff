"""The number of the cheapest rows between two arrangements, and what lies on them."""

from cratetowers.arrangements import check_arrangement, check_both
from cratetowers.costs import sure_cost
from cratetowers.errors import TooMany
from cratetowers.lines import reckoning_of
from cratetowers.routes import THROUGH, levels_between, parts_of

MOST_COUNTED = 12


def count_cheapest(yard, start, goal):
    """Return the number of the cheapest rows from one arrangement to another one."""
    check_both(yard, start, goal)
    _check_few(yard)
    return _how_many(yard, start, goal)


def fewest_moves(yard, start, goal):
    """Return the least number of moves of a cheapest row."""
    return _moves_at_best(yard, start, goal, 1)


def most_moves(yard, start, goal):
    """Return the greatest number of moves of a cheapest row."""
    return _moves_at_best(yard, start, goal, -1)


def lies_on_some(yard, start, goal, arrangement):
    """Tell whether some cheapest row comes to an arrangement."""
    cost = sure_cost(yard, start, goal)
    check_arrangement(yard, arrangement)
    return _lies_on_cheapest(yard, start, goal, arrangement, cost)


def lies_on_all(yard, start, goal, arrangement):
    """Tell whether all cheapest rows come to an arrangement."""
    cost = sure_cost(yard, start, goal)
    check_arrangement(yard, arrangement)
    _check_few(yard)
    if not _lies_on_cheapest(yard, start, goal, arrangement, cost):
        return False
    # No price is 0, so a cheapest row comes to an arrangement once.
    over = _how_many(yard, start, arrangement) * _how_many(yard, arrangement, goal)
    return over == _how_many(yard, start, goal)


def _check_few(yard):
    """Raise TooMany for a yard of too many crates to count its rows."""
    if len(yard) > MOST_COUNTED:
        raise TooMany(len(yard))


def _lies_on_cheapest(yard, start, goal, arrangement, cost):
    """Tell whether the detour to an arrangement costs nothing."""
    reckoning = yard.reckoning()
    return reckoning.cheapest(start, arrangement) + reckoning.cheapest(arrangement, goal) == cost


def _moves_at_best(yard, start, goal, charge):
    """Return how many moves a cheapest row makes if each one also has a charge that is next to nothing."""
    cost = sure_cost(yard, start, goal)
    # A cheapest row has fewer than 4 ** n moves, so all charges together stay below the least price.
    scale = 2 * len(yard)
    rows = [
        tuple([None if price is None else (price << scale) + charge for price in row])
        for row in yard.price_rows()
    ]
    return (reckoning_of(rows).cheapest(start, goal) - (cost << scale)) * charge


def _how_many(yard, start, goal):
    """Return the number of the cheapest rows, level by level."""
    levels = levels_between(yard, start, goal)
    if levels and not levels[0].is_way():
        return 0
    choices = []
    wanted = [THROUGH]
    for level in levels:
        choice = {ends: [parts_of(ends, route) for route in level.routes(ends)] for ends in wanted}
        choices.append(choice)
        wanted = list({part: True for lists in choice.values() for parts in lists for part in parts})
    counts = {ends: 1 for ends in wanted}
    for choice in reversed(choices):
        counts = {ends: _sum_of_products(lists, counts) for ends, lists in choice.items()}
    return counts[THROUGH]


def _sum_of_products(lists, counts):
    """Return the sum, over some lists of ends, of the products of their counts."""
    many = 0
    for parts in lists:
        times = 1
        for part in parts:
            times = times * counts[part]
        many = many + times
    return many
