"""What papers of both kinds have in common: lists of dicts of costs, of which none is above a line.

Where a paper is judged, a bound stands for its None and for each bar. It is greater than all lines without these, so
that one comparison tells of numbers and of None alike.
"""

from cratetowers.lines import without_bars


def are_levels(value, count, names):
    """Tell whether any value is a list of so many dicts from these names to costs, of which the first one has 0."""
    return (
        isinstance(value, (list, tuple))
        and len(value) == count
        and all([_is_level(level, names) for level in value])
        and all([value[0][name] == 0 for name in names])
    )


def _is_level(value, names):
    """Tell whether any value is a dict from just these names to integers from 0 on, or None."""
    if not isinstance(value, dict) or len(value) != len(names):
        return False
    # True and False are no costs, so False may stand for a missing one.
    costs = [value.get(name, False) for name in names]
    return all([
        cost is None or (isinstance(cost, int) and not isinstance(cost, bool) and cost >= 0)
        for cost in costs
    ])


def bound_beyond(yard, lists):
    """Return a bound that is greater than all lines made of the costs in some lists and of the prices of a yard."""
    costs = [cost for levels in lists for level in levels for cost in level.values() if cost is not None]
    # At most three parts of a line are costs and two are prices, of which the yard's own bound is greater.
    return yard.reckoning().bound + 3 * max(costs)


def bounded_prices(yard, bound):
    """Return the prices of the crates from the smallest one on, with a bound where a way is barred."""
    return without_bars(yard.price_rows(), bound)


def numbers_of(levels, names, bound):
    """Return for each level the costs of its names, in their order, with a bound in the place of None."""
    return [
        tuple([bound if level[name] is None else level[name] for name in names])
        for level in levels
    ]


def are_within(levels, limits):
    """Tell whether no number of the levels behind the first one is greater than the limit beside it."""
    return all([
        all([number <= limit for number, limit in zip(level, line)])
        for level, line in zip(levels[1:], limits)
    ])
