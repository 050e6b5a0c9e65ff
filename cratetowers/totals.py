"""What holds of all arrangements of few crates."""

from cratetowers.arrangements import arrangement_at, check_arrangement, tower
from cratetowers.errors import TooMany
from cratetowers.lines import both_lines, from_each_tower
from cratetowers.lots import come_to
from cratetowers.yards import PLACES, WAYS, check_yard, third

MOST_CRATES_IN_ALL = 7
MOST_CRATES_IN_PAIRS = 5


def can_come(yard, start):
    """Return the number of the arrangements that can be come to from one."""
    check_arrangement(yard, start)
    _check_few(yard, MOST_CRATES_IN_ALL)
    return come_to(yard, start).count()


def farthest(yard, start):
    """Return the greatest least cost from an arrangement, and the first arrangement that has it."""
    check_arrangement(yard, start)
    _check_few(yard, MOST_CRATES_IN_ALL)
    return _greatest(yard, _all_costs(yard.reckoning(), start))


def farthest_from_tower(yard, place):
    """Return the greatest least cost to the tower on a place, and the first arrangement that has it."""
    return _greatest(yard, _costs_to_tower(yard, place))


def sum_to_tower(yard, place):
    """Return the sum of the least costs to the tower on a place, and how many arrangements have one."""
    costs = _costs_to_tower(yard, place)
    known = [cost for cost in costs if cost < yard.reckoning().bound]
    return (sum(known), len(known))


def twice_moved(yard):
    """Return the number of the pairs of arrangements of which each cheapest row moves crate 0 twice."""
    check_yard(yard)
    _check_few(yard, MOST_CRATES_IN_PAIRS)
    reckoning = yard.reckoning()
    rests = [""]
    for _ in range(len(yard) - 1):
        rests = [rest + place for rest in rests for place in PLACES]
    to_towers = [reckoning.to_towers(rest)[-1] for rest in rests]
    from_towers = [reckoning.from_towers(rest)[-1] for rest in rests]
    return sum([_twice_moved_on(reckoning, way, to_towers, from_towers) for way in WAYS])


def _twice_moved_on(reckoning, way, to_towers, from_towers):
    """Return how many pairs of rests there are with which crate 0 has to go a way over the third place."""
    prices, towers, bound = reckoning.prices[-1], reckoning.towers[-2], reckoning.bound
    ahead = [both_lines(way, prices, towers, costs, (0, 0, 0)) for costs in to_towers]
    here, over = PLACES.index(way[0]), PLACES.index(third(way))
    behind = [(costs[over], costs[here]) for costs in from_towers]
    return len([
        way
        for straight, turning in ahead
        for straight_on, turning_on in behind
        if turning + turning_on < straight + straight_on and turning + turning_on < bound
    ])


def _check_few(yard, most):
    """Raise TooMany for a yard of more than so many crates."""
    if len(yard) > most:
        raise TooMany(len(yard))


def _costs_to_tower(yard, place):
    """Return the least costs of all arrangements, in their order, to the tower on a place."""
    goal = tower(yard, place)
    _check_few(yard, MOST_CRATES_IN_ALL)
    return _all_costs(yard.reckoning().backwards(), goal)


def _greatest(yard, costs):
    """Return the greatest cost of all arrangements that have one, and the first arrangement that has it."""
    greatest = max([cost for cost in costs if cost < yard.reckoning().bound])
    return (greatest, arrangement_at(yard, costs.index(greatest)))


def _all_costs(reckoning, start):
    """Return the least costs from an arrangement to all arrangements, in their order."""
    # The costs from the start, and from the tower on each place, to all arrangements of the smaller crates.
    from_start = [0]
    from_towers = {place: [0] for place in PLACES}
    for place, prices, towers, to_towers in zip(
        start[::-1], reckoning.prices, reckoning.towers, reckoning.to_towers(start)
    ):
        from_start = _costs_with_one_more(place, from_start, from_towers, prices, towers, to_towers)
        between = from_each_tower(towers)
        from_towers = {
            tower_place: _costs_with_one_more(
                tower_place, from_towers[tower_place], from_towers, prices, towers, between[tower_place]
            )
            for tower_place in PLACES
        }
    return from_start


def _costs_with_one_more(here, staying, from_towers, prices, towers, to_towers):
    """Return the costs to all arrangements with one crate more that stands on a place at first.

    They are made of the costs of its rest: from how it stands at first, and from the tower on each place.
    """
    costs = []
    for there in PLACES:
        if there == here:
            costs.extend(staying)
        else:
            straight, turning = both_lines(here + there, prices, towers, to_towers, (0, 0, 0))
            over = from_towers[third(here + there)]
            costs.extend([min(straight + one, turning + other) for one, other in zip(over, from_towers[here])])
    return costs
