"""What holds of all arrangements of few crates."""

from cratetowers.arrangements import arrangement_at, check_arrangement, tower
from cratetowers.errors import TooMany
from cratetowers.lines import both_lines, from_each_tower
from cratetowers.lots import come_to
from cratetowers.yards import PLACES, WAYS, check_yard, third

MOST_CRATES_IN_ALL = 7
MOST_CRATES_IN_PAIRS = 5
_START = "s"


def can_come(yard, start):
    """Return the number of the arrangements that can be come to from one."""
    check_arrangement(yard, start)
    _check_few(yard, MOST_CRATES_IN_ALL)
    return come_to(yard, start).count()


def farthest(yard, start):
    """Return the greatest least cost from an arrangement, and the first arrangement that has it."""
    check_arrangement(yard, start)
    _check_few(yard, MOST_CRATES_IN_ALL)
    return _greatest(yard, _all_costs(yard.reckoning(), start))


def farthest_from_tower(yard, place):
    """Return the greatest least cost to the tower on a place, and the first arrangement that has it."""
    return _greatest(yard, _costs_to_tower(yard, place))


def sum_to_tower(yard, place):
    """Return the sum of the least costs to the tower on a place, and how many arrangements have one."""
    costs = _costs_to_tower(yard, place)
    known = [cost for cost in costs if cost < yard.reckoning().bound]
    return (sum(known), len(known))


def twice_moved(yard):
    """Return the number of the pairs of arrangements of which each cheapest row moves crate 0 twice."""
    check_yard(yard)
    _check_few(yard, MOST_CRATES_IN_PAIRS)
    reckoning = yard.reckoning()
    rests = [""]
    for _ in range(len(yard) - 1):
        rests = [rest + place for rest in rests for place in PLACES]
    to_towers = [reckoning.to_towers(rest)[-1] for rest in rests]
    from_towers = [reckoning.from_towers(rest)[-1] for rest in rests]
    return sum([_twice_moved_on(reckoning, way, to_towers, from_towers) for way in WAYS])


def _twice_moved_on(reckoning, way, to_towers, from_towers):
    """Return how many pairs of rests there are with which crate 0 has to go a way over the third place."""
    prices, towers, bound = reckoning.prices[-1], reckoning.towers[-2], reckoning.bound
    ahead = [both_lines(way, prices, towers, costs, (0, 0, 0)) for costs in to_towers]
    here, there, over = PLACES.index(way[0]), PLACES.index(way[1]), PLACES.index(third(way))
    behind = [(costs[over], costs[here]) for costs in from_towers]
    return len([
        way
        for straight, turning in ahead
        for straight_on, turning_on in behind
        if turning + turning_on < straight + straight_on and turning + turning_on < bound
    ])


def _check_few(yard, most):
    """Raise TooMany for a yard of more than so many crates."""
    if len(yard) > most:
        raise TooMany(len(yard))


def _costs_to_tower(yard, place):
    """Return the least costs of all arrangements, in their order, to the tower on a place."""
    goal = tower(yard, place)
    _check_few(yard, MOST_CRATES_IN_ALL)
    return _all_costs(yard.reckoning().backwards(), goal)


def _greatest(yard, costs):
    """Return the greatest cost of all arrangements that have one, and the first arrangement that has it."""
    greatest = max([cost for cost in costs if cost < yard.reckoning().bound])
    return (greatest, arrangement_at(yard, costs.index(greatest)))


def _all_costs(reckoning, start):
    """Return the least costs from an arrangement to all arrangements, in their order."""
    # For each end, the costs from there to all arrangements of the smaller crates.
    found = {end: [0] for end in (*PLACES, _START)}
    for place, prices, towers, from_start in zip(
        start[::-1], reckoning.prices, reckoning.towers, reckoning.to_towers(start)
    ):
        to_towers = from_each_tower(towers)
        to_towers[_START] = from_start
        below = found
        found = {}
        for end in below:
            here = place if end == _START else end
            found[end] = _costs_with_one_more(here, below[end], below, prices, towers, to_towers[end])
    return found[_START]


def _costs_with_one_more(here, staying, below, prices, towers, to_towers):
    """Return the costs from an end to all arrangements with one crate more, by those of its rest."""
    costs = []
    for there in PLACES:
        if there == here:
            costs.extend(staying)
        else:
            straight, turning = both_lines(here + there, prices, towers, to_towers, (0, 0, 0))
            over = below[third(here + there)]
            costs.extend([min(straight + one, turning + other) for one, other in zip(over, below[here])])
    return costs
