"""What is told back: moments of a row, prices by costs that were seen, and what costs tell of a yard."""

from cratetowers.arrangements import check_arrangement, check_both, is_arrangement
from cratetowers.changes import OnePrice
from cratetowers.errors import InvalidCosts, UnlikeYards
from cratetowers.lines import both_lines, from_each_tower, turned
from cratetowers.ways import Way
from cratetowers.yards import WAYS, Yard, check_crate, check_way, check_yard, is_integer, third

MOST_SEEN = 20


def moment(yard, start, goal, arrangement):
    """Return the number of moves of the told row behind which an arrangement comes, None if it does not come."""
    check_both(yard, start, goal)
    check_arrangement(yard, arrangement)
    return Way(yard, start, goal).moment(arrangement)


def price_range(yard, crate, way, seen):
    """Return the least and the greatest price that fit some least costs, and whether a bar fits."""
    check_yard(yard)
    check_crate(yard, crate)
    check_way(way)
    if not _are_seen(yard, seen):
        raise InvalidCosts(seen)
    prices = OnePrice(yard, crate, way)
    barred = all([prices.barred_cost(start, goal) == cost for start, goal, cost in seen])
    least, greatest = _shared([prices.prices_of_cost(cost, start, goal) for start, goal, cost in seen])
    return (least, greatest, barred)


def _are_seen(yard, value):
    """Tell whether any value is a list of 1 to 20 tuples of two arrangements and of a cost."""
    return (
        isinstance(value, (list, tuple))
        and 1 <= len(value) <= MOST_SEEN
        and all([_is_seen(yard, item) for item in value])
    )


def _is_seen(yard, value):
    """Tell whether any value is a tuple of two arrangements and of an integer from 0 on, or None."""
    return (
        isinstance(value, tuple)
        and len(value) == 3
        and is_arrangement(yard, value[0])
        and is_arrangement(yard, value[1])
        and (value[2] is None or (is_integer(value[2]) and value[2] >= 0))
    )


def _shared(ranges):
    """Return the least and the greatest price of all ranges, None and None if they have none in common."""
    if None in ranges:
        return (None, None)
    least = max([low for low, _ in ranges])
    greatest = min([high for _, high in ranges if high is not None], default=None)
    if greatest is not None and greatest < least:
        return (None, None)
    return (least, greatest)


def closed(yard):
    """Return the yard in which each price is the least cost of such a move with all smaller crates aside."""
    check_yard(yard)
    reckoning = yard.reckoning()
    rows = [
        [reckoning.told(number) for number in _closed_row(prices, towers)]
        for prices, towers in zip(reckoning.prices, reckoning.towers)
    ]
    return Yard(rows[::-1])


def _closed_row(prices, towers):
    """Return the least costs to move a crate on the six ways, with its rest on the third place at first and at last."""
    to_towers = from_each_tower(towers)
    from_towers = from_each_tower(turned(towers))
    return [
        min(both_lines(way, prices, towers, to_towers[third(way)], from_towers[third(way)]))
        for way in WAYS
    ]


def same_costs(one, other):
    """Tell whether the least costs between any two arrangements are the same in two yards."""
    return _first_unlike(one, other) is None


def parting_pair(one, other):
    """Return two arrangements between which the least costs of two yards are unlike, or None."""
    unlike = _first_unlike(one, other)
    if unlike is None:
        return None
    crate, way = unlike
    # Larger crates stay where they are, so any place will do for them.
    ahead, behind = "a" * crate, third(way) * (len(one) - 1 - crate)
    return (ahead + way[0] + behind, ahead + way[1] + behind)


def _first_unlike(one, other):
    """Return the first crate and way of which the closed yards have unlike prices, or None."""
    check_yard(one)
    check_yard(other)
    if len(one) != len(other):
        raise UnlikeYards()
    for crate, (row, other_row) in enumerate(zip(closed(one).price_rows(), closed(other).price_rows())):
        for way, price, other_price in zip(WAYS, row, other_row):
            if price != other_price:
                return (crate, way)
    return None
