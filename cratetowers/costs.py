"""Least costs between any two arrangements, and the papers that show them."""

from cratetowers.arrangements import check_arrangement, check_both
from cratetowers.errors import InvalidPaper, NoWay
from cratetowers.levels import is_paper
from cratetowers.lines import both_lines, first_apart, to_towers_above, turned
from cratetowers.papers import are_levels, are_within, bound_beyond, bounded_prices, numbers_of
from cratetowers.yards import PLACES, WAYS


def to_towers(yard, start):
    """Return the least costs from an arrangement to the three towers."""
    check_arrangement(yard, start)
    reckoning = yard.reckoning()
    return reckoning.named(PLACES, reckoning.to_towers(start)[-1])


def from_towers(yard, goal):
    """Return the least costs from the three towers to an arrangement."""
    check_arrangement(yard, goal)
    reckoning = yard.reckoning()
    return reckoning.named(PLACES, reckoning.from_towers(goal)[-1])


def least(yard, start, goal):
    """Return the least cost from one arrangement to another one, None if no row leads there."""
    check_both(yard, start, goal)
    reckoning = yard.reckoning()
    return reckoning.told(reckoning.cheapest(start, goal))


def largest_moving(yard, start, goal):
    """Return the largest crate that has unlike places in two arrangements, or None."""
    check_both(yard, start, goal)
    return first_apart(start, goal)


def paper(yard, start, goal):
    """Return the paper for two arrangements that has the greatest numbers."""
    check_both(yard, start, goal)
    reckoning = yard.reckoning()
    return (
        [reckoning.named(WAYS, towers) for towers in reckoning.towers],
        [reckoning.named(PLACES, level) for level in reckoning.to_towers(start)],
        [reckoning.named(PLACES, level) for level in reckoning.from_towers(goal)],
    )


def is_cost_paper(yard, start, goal, value):
    """Tell whether any value is a paper for two arrangements."""
    check_both(yard, start, goal)
    return (
        isinstance(value, tuple)
        and len(value) == 3
        and is_paper(yard, value[0])
        and are_levels(value[1], len(yard) + 1, PLACES)
        and are_levels(value[2], len(yard) + 1, PLACES)
        and _are_within_lines(yard, start, goal, value)
    )


def _are_within_lines(yard, start, goal, paper):
    """Tell whether no number for a start or a goal is greater than a line made of the dicts ahead of it."""
    bound = bound_beyond(yard, paper)
    prices = bounded_prices(yard, bound)
    towers = numbers_of(paper[0], WAYS, bound)
    prices_back = [turned(six) for six in prices]
    towers_back = [turned(six) for six in towers]
    return (
        _are_within_sums(start, prices, towers, numbers_of(paper[1], PLACES, bound))
        and _are_within_sums(goal, prices_back, towers_back, numbers_of(paper[2], PLACES, bound))
    )


def _are_within_sums(start, prices, towers, levels):
    """Tell whether no number from a start to the towers is greater than a sum made of the level ahead of it."""
    return are_within(levels, [
        to_towers_above(place, six, table, below)
        for place, six, table, below in zip(start[::-1], prices, towers, levels)
    ])


def shown_cost(yard, start, goal, paper):
    """Return what a paper for two arrangements tells of the cost between them."""
    if not is_cost_paper(yard, start, goal, paper):
        raise InvalidPaper(paper)
    crate = first_apart(start, goal)
    if crate is None:
        return 0
    rest = len(yard) - 1 - crate
    bound = bound_beyond(yard, paper)
    prices = bounded_prices(yard, bound)[rest]
    towers = numbers_of([paper[0][rest]], WAYS, bound)[0]
    from_start = numbers_of([paper[1][rest]], PLACES, bound)[0]
    to_goal = numbers_of([paper[2][rest]], PLACES, bound)[0]
    cost = min(both_lines(start[crate] + goal[crate], prices, towers, from_start, to_goal))
    return cost if cost < bound else None


def sure_cost(yard, start, goal):
    """Return the least cost from one arrangement to another one; raise NoWay if no row leads there."""
    cost = least(yard, start, goal)
    if cost is None:
        raise NoWay(start, goal)
    return cost
