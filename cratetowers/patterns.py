"""Patterns of places, the least costs to what fits them, and what is nearest."""

from cratetowers.arrangements import check_arrangement, check_both
from cratetowers.branches import Nearest, first_of, how_many
from cratetowers.errors import InvalidCount, InvalidPattern
from cratetowers.lines import both_lines, first_apart, from_each_tower
from cratetowers.yards import PLACES, check_yard, is_integer, third

_CHOICES = ("a", "b", "c", "ab", "ac", "bc", "abc")


def is_pattern(yard, value):
    """Tell whether any value is a pattern of a yard."""
    check_yard(yard)
    return (
        isinstance(value, (list, tuple))
        and len(value) == len(yard)
        and all([isinstance(places, str) and places in _CHOICES for places in value])
    )


def check_pattern(yard, pattern):
    """Raise InvalidYard, and InvalidPattern for any value that is not a pattern of the yard."""
    if not is_pattern(yard, pattern):
        raise InvalidPattern(pattern)


def fits(yard, pattern, arrangement):
    """Tell whether an arrangement fits a pattern."""
    check_pattern(yard, pattern)
    check_arrangement(yard, arrangement)
    return all([place in places for place, places in zip(arrangement, pattern)])


def how_many_fit(yard, pattern):
    """Return how many arrangements fit a pattern."""
    check_pattern(yard, pattern)
    many = 1
    for places in pattern:
        many = many * len(places)
    return many


def cost_to(yard, start, pattern):
    """Return the least cost from an arrangement to one that fits a pattern, or None."""
    check_arrangement(yard, start)
    check_pattern(yard, pattern)
    return _cost(yard, start, pattern)


def cost_from(yard, pattern, goal):
    """Return the least cost from an arrangement that fits a pattern to a given one, or None."""
    check_pattern(yard, pattern)
    check_arrangement(yard, goal)
    return _cost(yard, pattern, goal)


def cost_between(yard, starts, goals):
    """Return the least cost from an arrangement that fits one pattern to one that fits another one, or None."""
    check_pattern(yard, starts)
    check_pattern(yard, goals)
    return _cost(yard, starts, goals)


def _cost(yard, starts, goals):
    """Return the least cost from a start to a goal, or None."""
    reckoning = yard.reckoning()
    return reckoning.told(reckoning.cheapest(starts, goals))


def nearest(yard, start, pattern):
    """Return the least cost from an arrangement to those that fit a pattern, and the first nearest one, or None."""
    check_arrangement(yard, start)
    check_pattern(yard, pattern)
    return _first_nearest(yard.reckoning(), start, pattern)


def nearest_start(yard, pattern, goal):
    """Return the least cost to an arrangement from those that fit a pattern, and the first nearest one, or None."""
    check_pattern(yard, pattern)
    check_arrangement(yard, goal)
    return _first_nearest(yard.reckoning().backwards(), goal, pattern)


def _first_nearest(reckoning, start, pattern):
    """Return the tuple of the least cost to a pattern and of the first arrangement with this cost, or None."""
    found = Nearest(reckoning, start, pattern)
    if reckoning.told(found.least_cost) is None:
        return None
    return (found.least_cost, first_of(found, len(start)))


def how_many_nearest(yard, start, pattern):
    """Return how many arrangements that fit a pattern have the least cost from an arrangement."""
    check_arrangement(yard, start)
    check_pattern(yard, pattern)
    reckoning = yard.reckoning()
    found = Nearest(reckoning, start, pattern)
    return 0 if reckoning.told(found.least_cost) is None else how_many(found, len(yard))


def pair_between(yard, starts, goals):
    """Return two arrangements that fit two patterns, with the least cost from one to the other, or None."""
    check_pattern(yard, starts)
    check_pattern(yard, goals)
    reckoning = yard.reckoning()
    if reckoning.told(reckoning.cheapest(starts, goals)) is None:
        return None
    apart = first_apart(starts, goals)
    if apart is None:
        both = _first_shared(starts, goals)
        return (both, both)
    shared = _first_shared(starts[:apart], goals[:apart])
    here, there, first, last = _cheapest_line(reckoning, apart, starts, goals)
    ahead = _first_arrangement(reckoning.backwards(), first, starts[apart + 1:])
    behind = _first_arrangement(reckoning, last, goals[apart + 1:])
    return (shared + here + ahead, shared + there + behind)


def _first_shared(starts, goals):
    """Return the first arrangement that fits both of two patterns."""
    arrangement = ""
    for places, others in zip(starts, goals):
        arrangement = arrangement + [place for place in places if place in others][0]
    return arrangement


def _cheapest_line(reckoning, crate, starts, goals):
    """Return of the cheapest line of a crate its first and last place, and the first and last tower of the rest."""
    rest = len(starts) - 1 - crate
    prices, towers = reckoning.prices[rest], reckoning.towers[rest]
    to_towers = reckoning.to_towers(starts[crate + 1:])[-1]
    from_towers = reckoning.from_towers(goals[crate + 1:])[-1]
    lines = []
    for here in starts[crate]:
        for there in goals[crate]:
            straight, turning = both_lines(here + there, prices, towers, to_towers, from_towers)
            over = third(here + there)
            lines.append((straight, here, there, over, over))
            lines.append((turning, here, there, there, here))
    return min(lines)[1:]


def _first_arrangement(reckoning, place, pattern):
    """Return the first nearest arrangement of a pattern to the tower on a place."""
    crates = len(pattern)
    return first_of(Nearest(reckoning, place * crates, pattern), crates)


def home_costs(yard, start, goal):
    """Return the least costs to bring no crates, the largest one, the two largest ones and so on to their places."""
    check_both(yard, start, goal)
    reckoning = yard.reckoning()
    apart = first_apart(start, goal)
    if apart is None:
        return [0] * (len(yard) + 1)
    to_towers = reckoning.to_towers(start[apart + 1:])[-1]
    # For each tower of the smaller crates: what it costs at least to have the larger ones home and this tower.
    costs = {place: reckoning.bound for place in PLACES}
    _bring_home(reckoning, costs, start[apart], goal, apart, to_towers, 0)
    found = [0] * (apart + 1) + [min(list(costs.values()))]
    for crate in range(apart + 1, len(yard)):
        ahead = costs
        costs = {place: reckoning.bound for place in PLACES}
        from_tower = from_each_tower(reckoning.towers[len(yard) - 1 - crate])
        for place in PLACES:
            _bring_home(reckoning, costs, place, goal, crate, from_tower[place], ahead[place])
        found.append(min(list(costs.values())))
    return [reckoning.told(cost) for cost in found]


def _bring_home(reckoning, costs, here, goal, crate, to_towers, ahead):
    """Lower the costs to what they are if a crate comes home from a place, with these costs of its rest."""
    there = goal[crate]
    if here == there:
        costs[here] = min(costs[here], ahead)
        return
    rest = len(goal) - 1 - crate
    straight, turning = both_lines(
        here + there, reckoning.prices[rest], reckoning.towers[rest], to_towers, (0, 0, 0)
    )
    over = third(here + there)
    costs[over] = min(costs[over], ahead + straight)
    costs[here] = min(costs[here], ahead + turning)


def home_within(yard, start, goal, cost):
    """Return how many of the largest crates can be brought to their places for at most a cost."""
    costs = home_costs(yard, start, goal)
    if not is_integer(cost) or cost < 0:
        raise InvalidCount(cost)
    return len([least for least in costs if least is not None and least <= cost]) - 1
