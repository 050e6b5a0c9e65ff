"""The two lines of the document in numbers, level by level, for prices in which each bar is a great number.

Six numbers stand for the six ways in their order, and three for the places. A level is about the so many smallest
crates: six costs from tower to tower, or three between the towers and how these crates stand at first or at last.
Levels are listed from no crates on. Among them a number that is not below a bound stands for None: the bound is
greater than all costs, so what is made with a bar can never look like a cost.
"""

THIRDS = {"ab": "c", "ac": "b", "ba": "c", "bc": "a", "ca": "b", "cb": "a"}
# For each way from i to j, with the third place t: the columns of ij, it, tj and ji, and the places i, j and t.
_TURNS = {
    "ab": (0, 1, 5, 2, 0, 1, 2),
    "ac": (1, 0, 3, 4, 0, 2, 1),
    "ba": (2, 3, 4, 0, 1, 0, 2),
    "bc": (3, 2, 1, 5, 1, 2, 0),
    "ca": (4, 5, 2, 1, 2, 0, 1),
    "cb": (5, 4, 0, 3, 2, 1, 0),
}


def both_lines(way, prices, towers, to_towers, from_towers):
    """Return the costs of the straight and of the turning line of a crate that goes a way.

    Of its rest, they take the costs from tower to tower, from how it stands at first to the towers, and from the
    towers to how it stands at last.
    """
    straight, first, second, back, here, there, over = _TURNS[way]
    return (
        to_towers[over] + prices[straight] + from_towers[over],
        to_towers[there] + prices[first] + towers[back] + prices[second] + from_towers[here],
    )


def towers_above(prices, below):
    """Return the costs from tower to tower with one crate more, by its prices and the costs of the level below."""
    ab, ac, ba, bc, ca, cb = below
    price_ab, price_ac, price_ba, price_bc, price_ca, price_cb = prices
    # Written out for each way, because nothing is asked for as often as this.
    return (
        min(ac + price_ab + cb, ab + price_ac + ba + price_cb + ab),
        min(ab + price_ac + bc, ac + price_ab + ca + price_bc + ac),
        min(bc + price_ba + ca, ba + price_bc + ab + price_ca + ba),
        min(ba + price_bc + ac, bc + price_ba + cb + price_ac + bc),
        min(cb + price_ca + ba, ca + price_cb + ac + price_ba + ca),
        min(ca + price_cb + ab, cb + price_ca + bc + price_ab + cb),
    )


def to_towers_above(places, prices, towers, below):
    """Return the costs to the towers with one crate more that may stand on some places at first.

    They are made of its prices, and of the costs of the level below: from tower to tower, and to the towers.
    """
    if len(places) == 1:
        return _from_place(places, prices, towers, below)
    ones = [_from_place(place, prices, towers, below) for place in places]
    return tuple([min(costs) for costs in zip(*ones)])


def _from_place(place, prices, towers, below):
    """Return the costs to the towers with one crate more that stands on a place at first."""
    ab, ac, ba, bc, ca, cb = towers
    price_ab, price_ac, price_ba, price_bc, price_ca, price_cb = prices
    to_a, to_b, to_c = below
    if place == "a":
        return (
            to_a,
            min(to_c + price_ab + cb, to_b + price_ac + ba + price_cb + ab),
            min(to_b + price_ac + bc, to_c + price_ab + ca + price_bc + ac),
        )
    if place == "b":
        return (
            min(to_c + price_ba + ca, to_a + price_bc + ab + price_ca + ba),
            to_b,
            min(to_a + price_bc + ac, to_c + price_ba + cb + price_ac + bc),
        )
    return (
        min(to_b + price_ca + ba, to_a + price_cb + ac + price_ba + ca),
        min(to_a + price_cb + ab, to_b + price_ca + bc + price_ab + cb),
        to_c,
    )


def turned(six):
    """Return the six numbers of the ways back."""
    ab, ac, ba, bc, ca, cb = six
    return (ba, ca, ab, cb, ac, bc)


def from_each_tower(towers):
    """Return for each place, by the costs from tower to tower, those from the tower there to all three."""
    ab, ac, ba, bc, ca, cb = towers
    return {"a": (0, ab, ac), "b": (ba, 0, bc), "c": (ca, cb, 0)}


def reckoning_of(rows):
    """Return the reckoning of the prices of crates, from the largest one on, with None where a way is barred."""
    greatest = max([price for row in rows for price in row if price is not None], default=1)
    # A cheapest row comes to no arrangement twice, so it has fewer than 3 ** n moves. So has a line: it is made of at
    # most three such rows of one crate less, and of two moves. The bound is 4 ** n times the greatest price.
    bound = greatest << (2 * len(rows))
    prices = without_bars(rows, bound)
    towers = [(0, 0, 0, 0, 0, 0)]
    for six in prices:
        towers.append(towers_above(six, towers[-1]))
    return Reckoning(bound, prices, towers)


def without_bars(rows, bound):
    """Return the prices of crates from the smallest one on, with a bound where a way is barred."""
    return [
        tuple([bound if price is None else price for price in row]) if None in row else row
        for row in rows[::-1]
    ]


class Reckoning:
    """The prices of crates, from the smallest one on, and the levels of the least costs from tower to tower.

    What stands here is shared, so nobody changes it. A start and a goal are given by the places on which each crate
    may stand, from the largest one on: an arrangement, or a pattern, or the ends of these for the smaller crates.
    """

    def __init__(self, bound, prices, towers):
        self.bound = bound
        self.prices = prices
        self.towers = towers
        self._backwards = None

    def backwards(self):
        """Return the reckoning in which each way has the numbers of the way back."""
        if self._backwards is None:
            prices = [turned(six) for six in self.prices]
            self._backwards = Reckoning(self.bound, prices, [turned(six) for six in self.towers])
        return self._backwards

    def to_towers(self, starts):
        """Return the levels of the least costs from a start to the towers."""
        levels = [(0, 0, 0)]
        for places, prices, towers in zip(starts[::-1], self.prices, self.towers):
            levels.append(to_towers_above(places, prices, towers, levels[-1]))
        return levels

    def from_towers(self, goals):
        """Return the levels of the least costs from the towers to a goal."""
        return self.backwards().to_towers(goals)

    def cheapest(self, starts, goals):
        """Return the least cost from a start to a goal."""
        crate = first_apart(starts, goals)
        if crate is None:
            return 0
        rest = len(starts) - 1 - crate
        prices, towers = self.prices[rest], self.towers[rest]
        to_towers = self.to_towers(starts[crate + 1:])[-1]
        from_towers = self.from_towers(goals[crate + 1:])[-1]
        return min([
            min(both_lines(here + there, prices, towers, to_towers, from_towers))
            for here in starts[crate]
            for there in goals[crate]
        ])

    def told(self, number):
        """Return the cost for which a number stands: None for one that is not below the bound."""
        return number if number < self.bound else None

    def named(self, names, numbers):
        """Return a dict from some names to the costs for which as many numbers stand."""
        bound = self.bound
        return {name: number if number < bound else None for name, number in zip(names, numbers)}


def first_apart(starts, goals):
    """Return the largest crate that stands on no place of the goal at first, None if there is none.

    All larger crates may stay where they are: what leads the smaller ones to their goal needs none of their moves.
    """
    for crate, places in enumerate(starts):
        # The first test alone tells much faster of arrangements that are mostly alike.
        if places != goals[crate] and not any([place in goals[crate] for place in places]):
            return crate
    return None
