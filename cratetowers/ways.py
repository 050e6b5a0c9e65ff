"""A cheapest row between two arrangements, told move by move."""

from cratetowers.arrangements import check_both
from cratetowers.errors import InvalidCount, InvalidCrate, NoWay
from cratetowers.routes import THROUGH, levels_between, parts_of
from cratetowers.yards import WAYS, check_way, is_integer_within

MOST_LISTED = 1000


class Way:
    """The cheapest row from one arrangement to another one that goes straight where this is not dearer.

    It is kept as routes: for each crate, from two ends to its places in the row between them and to the ends of the
    rows that its rest makes meanwhile.
    """

    def __init__(self, yard, start, goal):
        check_both(yard, start, goal)
        levels = levels_between(yard, start, goal)
        if levels and not levels[0].is_way():
            raise NoWay(start, goal)
        self.start = start
        self.goal = goal
        self._cost = levels[0].through_cost() if levels else 0
        self._routes = _routes_of(levels, start)
        self._lengths = _lengths_of(self._routes)
        self._uses = _uses_of(self._routes)

    @property
    def cost(self):
        """What the row costs."""
        return self._cost

    @property
    def moves(self):
        """The number of the moves."""
        return self._lengths[0][THROUGH]

    def move(self, index):
        """Return the move with an index."""
        if not is_integer_within(index, 0, self.moves - 1):
            raise InvalidCount(index)
        crate = 0
        places, part, left = self._held_behind(crate, THROUGH, index)
        while left < self._lengths[crate + 1][part]:
            crate += 1
            places, part, left = self._held_behind(crate, part, left)
        return (crate, places[1])

    def behind(self, count):
        """Return the arrangement behind the first so many moves."""
        if not is_integer_within(count, 0, self.moves):
            raise InvalidCount(count)
        arrangement = ""
        part, left = THROUGH, count
        for crate in range(len(self._routes)):
            places, part, left = self._held_behind(crate, part, left)
            arrangement = arrangement + places[0]
        return arrangement

    def first(self, count):
        """Return the list of the first so many moves."""
        if not is_integer_within(count, 0, min(self.moves, MOST_LISTED)):
            raise InvalidCount(count)
        return self._first_between(0, THROUGH, count)

    def crate_moves(self):
        """Return, for each crate, how often it is moved."""
        return [sum(list(used.values())) for used in self._uses]

    def uses(self, crate, way):
        """Return how often a crate goes a way."""
        if not is_integer_within(crate, 0, len(self._uses) - 1):
            raise InvalidCrate(crate)
        check_way(way)
        return self._uses[crate][way]

    def moment(self, arrangement):
        """Return the number of moves behind which an arrangement comes, or None if it does not come."""
        moves = 0
        ends = THROUGH
        for crate, place in enumerate(arrangement):
            route, parts = self._routes[crate][ends]
            at = route.find(place)
            if at < 0:
                return None
            moves = moves + at + sum([self._lengths[crate + 1][part] for part in parts[:at]])
            ends = parts[at]
        return moves

    def _held_behind(self, crate, ends, count):
        """Return how things are behind the first so many moves of the row of a crate and its rest between two ends.

        These are the places of its route from the present one on, the part of the row that its rest makes there,
        and how many moves of this part are made.
        """
        route, parts = self._routes[crate][ends]
        lengths = self._lengths[crate + 1]
        at = 0
        left = count
        while left > lengths[parts[at]]:
            # Behind each part but the last one, the crate itself makes a move.
            left = left - lengths[parts[at]] - 1
            at += 1
        return route[at:], parts[at], left

    def _first_between(self, crate, ends, count):
        """Return the first so many moves of the row of a crate and its rest between two ends."""
        route, parts = self._routes[crate][ends]
        listed = []
        for at, part in enumerate(parts):
            wanted = min(count - len(listed), self._lengths[crate + 1][part])
            if wanted > 0:
                listed.extend(self._first_between(crate + 1, part, wanted))
            if len(listed) < count:
                listed.append((crate, route[at + 1]))
        return listed


def _routes_of(levels, start):
    """Return for each crate the routes between all ends that occur, each with the ends of the parts of its rest."""
    routes = [{THROUGH: (place, [THROUGH])} for place in start[:len(start) - len(levels)]]
    wanted = [THROUGH]
    for level in levels:
        chosen = {}
        below = {}
        for ends in wanted:
            route = level.routes(ends)[0]
            parts = parts_of(ends, route)
            chosen[ends] = (route, parts)
            for part in parts:
                below[part] = True
        routes.append(chosen)
        wanted = list(below)
    return routes


def _lengths_of(routes):
    """Return the numbers of moves between the ends, of each crate and its rest, and at last of no crates."""
    lengths = [{part: 0 for _, parts in routes[-1].values() for part in parts}]
    for chosen in reversed(routes):
        below = lengths[-1]
        lengths.append({
            ends: len(route) - 1 + sum([below[part] for part in parts])
            for ends, (route, parts) in chosen.items()
        })
    return lengths[::-1]


def _uses_of(routes):
    """Return for each crate how often it goes each way."""
    uses = []
    times = {THROUGH: 1}
    for chosen in routes:
        used = {way: 0 for way in WAYS}
        below = {}
        for ends, often in times.items():
            route, parts = chosen[ends]
            # A route of three places has two ways, which begin it and end it.
            if len(route) > 1:
                used[route[:2]] += often
            if len(route) > 2:
                used[route[1:]] += often
            for part in parts:
                below[part] = below.get(part, 0) + often
        uses.append(used)
        times = below
    return uses
