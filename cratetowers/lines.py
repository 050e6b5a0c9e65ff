"""The routes of a crate, and the lines that its moves and the rows of its rest make.

A level is a dict about the so many smallest crates: from the two ends of a row to a number. An end is a place, for
the tower on it, or START or GOAL, for how these crates stand in a start or in a goal. Among costs, None is greater
than all numbers: no row leads from the one end to the other.
"""

from cratetowers.yards import is_integer, third

START = "s"
GOAL = "g"
TO_TOWERS = ("sa", "sb", "sc")
FROM_TOWERS = ("ag", "bg", "cg")
THROUGH = "sg"
ALL_ENDS = ("ab", "ac", "ba", "bc", "ca", "cb", "sa", "sb", "sc", "ag", "bg", "cg", "sg")


def total(costs):
    """Return the sum of a list of costs, None if one of them is None."""
    return None if None in costs else sum(costs)


def least_of(costs):
    """Return the least one of a list of costs."""
    return min([cost for cost in costs if cost is not None], default=None)


def is_at_most(cost, bound):
    """Tell whether a cost is not greater than another one."""
    return bound is None or (cost is not None and cost <= bound)


def neighbours(text):
    """Return the pairs of signs that stand side by side in a string."""
    return [text[at:at + 2] for at in range(len(text) - 1)]


def routes_of(crate, ends, start="", goal=""):
    """Return the routes of a crate from end to end: it stays, or it goes straight or over the third place.

    A start or a goal of which no end tells may be left out.
    """
    here = _place_at(ends[0], crate, start, goal)
    there = _place_at(ends[1], crate, start, goal)
    if here == there:
        return [here]
    way = here + there
    return [way, here + third(way) + there]


def _place_at(end, crate, start, goal):
    """Return the place of a crate at an end."""
    if end == START:
        return start[crate]
    if end == GOAL:
        return goal[crate]
    return end


def parts_of(ends, route):
    """Return the ends of the rows of the rest, one for each place on the route of a crate."""
    # When the crate goes a way, its rest stands as the tower on the third place.
    towers = "".join([third(way) for way in neighbours(route)])
    return neighbours(ends[0] + towers + ends[1])


def line_cost(yard, crate, ends, route, below):
    """Return the cost of a line: of the moves on a route, and of the rows of the rest by the level below."""
    prices = [yard.price(crate, way) for way in neighbours(route)]
    return total(prices + [below[part] for part in parts_of(ends, route)])


def least_line(yard, crate, ends, routes, below):
    """Return the least cost of the lines on some routes."""
    return least_of([line_cost(yard, crate, ends, route, below) for route in routes])


def cost_levels(yard, wanted, start="", goal=""):
    """Return the levels of the least costs for the ends that are wanted, from no crates on up to all of them."""
    levels = [{ends: 0 for ends in wanted}]
    for crate in reversed(range(len(yard))):
        below = levels[-1]
        routes = {ends: routes_of(crate, ends, start, goal) for ends in wanted}
        levels.append({ends: least_line(yard, crate, ends, routes[ends], below) for ends in wanted})
    return levels


def are_within_lines(yard, wanted, levels, start="", goal=""):
    """Tell whether no cost for the ends that are wanted is greater than a line made of the level ahead."""
    for count in range(len(yard)):
        crate = len(yard) - 1 - count
        for ends in wanted:
            bound = least_line(yard, crate, ends, routes_of(crate, ends, start, goal), levels[count])
            if not is_at_most(levels[count + 1][ends], bound):
                return False
    return True


def are_levels(value, count, names):
    """Tell whether any value is a list of so many dicts from these names to costs, of which the first one has 0."""
    return (
        isinstance(value, (list, tuple))
        and len(value) == count
        and all([_is_level(level, names) for level in value])
        and all([value[0][name] == 0 for name in names])
    )


def _is_level(value, names):
    """Tell whether any value is a dict from just these names to costs."""
    return (
        isinstance(value, dict)
        and len(value) == len(names)
        and all([name in value and _is_cost(value[name]) for name in names])
    )


def _is_cost(value):
    """Tell whether any value is an integer from 0 on, or None."""
    return value is None or (is_integer(value) and value >= 0)
