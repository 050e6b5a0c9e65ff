"""What cheapest rows cost as one price changes."""

from cratetowers.lines import reckoning_of
from cratetowers.yards import COLUMNS


class OnePrice:
    """The least costs in a yard in which a crate has any other price for a way.

    The cost of a row grows with the price by as much as the row uses it. So the least cost is, as the price grows, the
    lower edge of many straight lines, of which each one is less steep than the one ahead.
    """

    def __init__(self, yard, crate, way):
        self._crate = crate
        self._column = COLUMNS[way]
        # A cheapest row has fewer than 4 ** n moves, so both a cost and as many uses fit into one number.
        self._scale = 2 * len(yard)
        self._rows = [
            tuple([None if price is None else price << self._scale for price in row])
            for row in yard.price_rows()
        ]
        # A price that no row uses more often than it has to.
        self._deterring = yard.reckoning().bound
        self._reckonings = {}

    def _cost_and_uses(self, price, start, goal):
        """Return the two numbers that stand in the cost of a row if the price has a trace of its uses, or None."""
        if price not in self._reckonings:
            row = self._rows[self._crate]
            priced = None if price is None else (price << self._scale) + 1
            changed = (*row[:self._column], priced, *row[self._column + 1:])
            rows = [*self._rows[:self._crate], changed, *self._rows[self._crate + 1:]]
            self._reckonings[price] = reckoning_of(rows)
        reckoning = self._reckonings[price]
        number = reckoning.told(reckoning.cheapest(start, goal))
        if number is None:
            return None
        cost = number >> self._scale
        return cost, number - (cost << self._scale)

    def line_at(self, price, start, goal):
        """Return the line of a cheapest row at a price, the least steep one: a tuple of its rest and its uses.

        The rest is what the row costs without these uses. It is None if no row leads from the start to the goal.
        """
        found = self._cost_and_uses(price, start, goal)
        if found is None:
            return None
        cost, uses = found
        return cost - uses * price, uses

    def last_line(self, start, goal):
        """Return the line of the cheapest rows of those that use the price as seldom as can be, or None."""
        return self.line_at(self._deterring, start, goal)

    def barred_cost(self, start, goal):
        """Return the least cost if the way is barred, None if no row leads there."""
        found = self._cost_and_uses(None, start, goal)
        return None if found is None else found[0]

    def least_kept(self, line, start, goal):
        """Return the least price above 0 at which the row of a line is a cheapest one, which it is at a greater one."""
        rest, uses = line
        price = 1
        other_rest, other_uses = self.line_at(price, start, goal)
        while other_rest + other_uses * price < rest + uses * price:
            # Where this row is dearer than a steeper one, it is so up to the price at which both are alike.
            price = -((other_rest - rest) // (other_uses - uses))
            other_rest, other_uses = self.line_at(price, start, goal)
        return price

    def greatest_kept(self, line, start, goal):
        """Return the greatest price at which the row of a line is a cheapest one, which it is at a lesser one.

        It is None if the row stays cheapest however great the price is.
        """
        rest, uses = line
        other_rest, other_uses = self.last_line(start, goal)
        if other_uses == uses:
            return None
        price = (other_rest - rest) // (uses - other_uses)
        other_rest, other_uses = self.line_at(price, start, goal)
        while other_rest + other_uses * price < rest + uses * price:
            price = (other_rest - rest) // (uses - other_uses)
            other_rest, other_uses = self.line_at(price, start, goal)
        return price

    def prices_of_cost(self, cost, start, goal):
        """Return the least and the greatest price with this least cost, the latter None if there is none, or None."""
        line = self.line_at(1, start, goal)
        if cost is None or line is None:
            # Whether a row leads there does not hang on the price.
            return (1, None) if cost is None and line is None else None
        price = 1
        rest, uses = line
        while rest + uses * price < cost:
            if uses == 0:
                return None
            # No greater price can have a cost above the line.
            price = -((rest - cost) // uses)
            rest, uses = self.line_at(price, start, goal)
        if rest + uses * price > cost:
            return None
        return price, (None if uses == 0 else price)
