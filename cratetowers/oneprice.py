"""One price of a yard changed: least costs, and the prices within which a row stays cheapest."""

from cratetowers.changes import OnePrice
from cratetowers.costs import least, sure_cost
from cratetowers.errors import InvalidPrice
from cratetowers.ways import Way
from cratetowers.yards import check_crate, check_way, check_yard, is_price


def cost_with(yard, start, goal, crate, way, price):
    """Return the least cost with another price of a crate for a way, or a bar, None if no row leads there."""
    check_yard(yard)
    return least(yard.with_price(crate, way, price), start, goal)


def kept_range(yard, start, goal, crate, way):
    """Return the least and the greatest price with which the told row stays cheapest, None for no greatest one."""
    _check_price_place(yard, crate, way)
    row = Way(yard, start, goal)
    prices = OnePrice(yard, crate, way)
    line = _line_of(row, crate, way, yard.price(crate, way))
    return (prices.least_kept(line, start, goal), prices.greatest_kept(line, start, goal))


def _line_of(row, crate, way, price):
    """Return what a row costs without its uses of a price, and how many these are."""
    uses = row.uses(crate, way)
    return (row.cost, 0) if uses == 0 else (row.cost - uses * price, uses)


def fewest_uses(yard, start, goal, crate, way):
    """Return how often a crate goes a way at least in any row from one arrangement to another one."""
    _check_price_place(yard, crate, way)
    sure_cost(yard, start, goal)
    if yard.price(crate, way) is None:
        return 0
    return OnePrice(yard, crate, way).last_line(start, goal)[1]


def pieces(yard, start, goal, crate, way, low, high):
    """Return the stretches of prices within which one row stays cheapest: where they begin, and the uses there."""
    _check_price_place(yard, crate, way)
    sure_cost(yard, start, goal)
    if not is_price(low):
        raise InvalidPrice(low)
    if not is_price(high) or high < low:
        raise InvalidPrice(high)
    prices = OnePrice(yard, crate, way)
    found = []
    price = low
    while price is not None and price <= high:
        row = Way(yard.with_price(crate, way, price), start, goal)
        found.append((price, row.uses(crate, way)))
        last = prices.greatest_kept(_line_of(row, crate, way, price), start, goal)
        price = None if last is None else last + 1
    return found


def _check_price_place(yard, crate, way):
    """Raise InvalidYard, and InvalidCrate and InvalidWay for any values that have no price in the yard."""
    check_yard(yard)
    check_crate(yard, crate)
    check_way(way)
