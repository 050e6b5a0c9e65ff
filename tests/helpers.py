"""What the tests share."""

import heapq
import itertools
import random
import unittest

from cratetowers.errors import CratesError, InvalidYard, NotAllowed, NoWay, TooMany, UnlikeYards
from cratetowers.yards import WAYS, Yard

# What stands for None, which is greater than all numbers.
ENDLESS = float("inf")

# Unlike prices at all places, so that a price taken from a wrong one shows.
ROWS = [[11, 12, 13, 14, 15, 16], [21, None, 23, 24, 25, 26], [31, 32, 33, None, None, 36]]


def odd_values():
    """Values of all kinds, none of them an integer from 0 on, a place, a way or the like."""
    return [
        None, True, False, -1, -10 ** 79,
        "", " ", "\n", "x", "d", "A", "1", "0", "-", "aa aa", "AB", "ad", "da", "ab ", " ab", "a-b",
        [], (), {}, [[]], [()], ["a"], ["ab"], ("a",), ("ab",), ["a", "b", "c"], [1], (1,), [None],
        {"a": 1}, {1: "ab"}, {"ab": "ab", "b": [1]}, [[[[["a"]]]]], [0] * 100, [None] * 6, (None,) * 6,
        Yard.even(2, 1), [Yard.even(2, 1)], InvalidYard("ab"), NoWay("a", "b"), CratesError("a"),
    ]


def prices_at(seed):
    """Six prices and bars that differ from seed to seed, the same ones at each run."""
    return [None if (seed + place) * 7 % 5 == 0 else (seed * 31 + place * 17) % 97 + 1 for place in range(6)]


def sample_yards():
    """Yards of 1 to 4 crates: with free ways, with all ways barred, and mixed ones."""
    for count in range(1, 5):
        yield Yard.even(count, 3)
        yield Yard([[None] * 6] * count)
        for seed in range(6):
            yield Yard([prices_at(5 * seed + crate) for crate in range(count)])


CHOICES = ["a", "b", "c", "ab", "ac", "bc", "abc"]


def random_patterns(seed, count, many):
    """So many patterns of so many crates, the same ones at each run."""
    chance = random.Random(f"{seed} {count}")
    return [[chance.choice(CHOICES) for _ in range(count)] for _ in range(many)]


def no_patterns(count):
    """Values that are no patterns of a yard with so many crates."""
    right = (["ab", "c", "abc"] * count)[:count]
    others = ["", "d", "ba", "aa", "aab", "abcc", "cba", "ca", "A", "a ", " a", "a b", "a,b", "abd", "a\n", "-"]
    near = [[*right[:-1], other] for other in [*others, None, 0, True, ["a"], ("a", "b"), [], {"a": 1}]]
    near += [["", *right[1:]], right[:-1], [*right, "a"], [right], right * 2, "a" * count, ("abc" * count)[:count]]
    near += [tuple(near[0]), {place: 1 for place in CHOICES[:count]}, {0: "a", 1: "b"}, ["abc"] * 100, count]
    return [value for value in odd_values() if not is_plain_pattern(value, count)] + near


def is_plain_pattern(value, count):
    return isinstance(value, (list, tuple)) and len(value) == count and all(item in CHOICES for item in value)


def all_arrangements(yard):
    """All arrangements in ascending order."""
    return ["".join(places) for places in itertools.product("abc", repeat=len(yard))]


def stacks_of(arrangement):
    """The crates on each place, the largest one first."""
    stacks = {"a": [], "b": [], "c": []}
    for crate, place in enumerate(arrangement):
        stacks[place].append(crate)
    return stacks


def moves_by_stacks(yard, arrangement):
    """The allowed moves as the yard worker sees them: a top crate onto the ground or a larger one."""
    stacks = stacks_of(arrangement)
    moves = []
    for column, way in enumerate(WAYS):
        taken, laid = stacks[way[0]], stacks[way[1]]
        if taken and (not laid or laid[-1] < taken[-1]) and yard.rows()[taken[-1]][column] is not None:
            moves.append((taken[-1], way[1]))
    return sorted(moves)


def no_arrangements(count):
    """Values that are no arrangements of a yard with so many crates."""
    right = ("abc" * count)[:count]
    near = [right + "a", right[:-1], right[:-1] + "d", right[:-1] + "A", right[:-1] + " ", right[:-1] + "\n"]
    near += [right + " ", " " + right, right + "\n", right.upper(), right.replace("a", "1"), right * 2, "a" * 200]
    return [*odd_values(), *near, 0, 1, count, [right], list(right), tuple(right), {right: 1}, (right,)]


def no_yards():
    yard = Yard(ROWS)
    others = [value for value in odd_values() if not isinstance(value, Yard)]
    return [*others, 0, 1, ROWS, str(yard), [yard], (yard,)]


def random_yard(seed, count, prices):
    """A yard of prices and bars out of a list, the same one at each run."""
    chance = random.Random(f"{seed} {count}")
    return Yard([[chance.choice(prices) for _ in WAYS] for _ in range(count)])


def searched_yards(most):
    """Yards of 1 to so many crates: prices alike, small, great and unlike, with and without bars."""
    for count in range(1, most + 1):
        yield Yard.even(count, 4)
        yield Yard([[2, None, 1, 1, None, 3]] * count)
        yield Yard([[1, None, None, 1, 1, None]] * count)
        yield Yard([[None, None, 1, 1, 1, 1]] * count)
        for seed in range(3):
            yield random_yard(seed, count, [1, 1, 2, 3])
            yield random_yard(seed, count, [1, 1, 2, 3, 9, None])
            yield random_yard(seed, count, [10 ** 29 + 7, 10 ** 30 - 1, 5, None])
        yield random_yard(7, count, [1, 2, None, None])


class PlainSearch:
    """The least costs between all arrangements of a small yard, by a search through all of them."""

    def __init__(self, yard):
        self.arrangements = all_arrangements(yard)
        prices = [dict(zip(WAYS, row)) for row in yard.rows()]
        self.steps = {
            here: [
                (prices[crate][here[crate] + place], (crate, place), here[:crate] + place + here[crate + 1:])
                for crate, place in moves_by_stacks(yard, here)
            ]
            for here in self.arrangements
        }
        self.found = {}

    def cost(self, start, goal):
        if start not in self.found:
            self.found[start] = self.search(start)
        return self.found[start].get(goal)

    def next_stops(self, here, goal):
        """The arrangements behind the first moves of all cheapest rows."""
        left = self.cost(here, goal)
        return [there for price, _, there in self.steps[here] if plain_sum([price, self.cost(there, goal)]) == left]

    def cheapest_rows(self, start, goal):
        """All cheapest rows, each one as the list of its arrangements; none if no row leads there."""
        if start == goal:
            return [[start]]
        if self.cost(start, goal) is None:
            return []
        return [
            [start, *row] for there in self.next_stops(start, goal) for row in self.cheapest_rows(there, goal)
        ]

    def search(self, start):
        costs = {}
        queue = [(0, start)]
        while queue:
            cost, here = heapq.heappop(queue)
            if here not in costs:
                costs[here] = cost
                for price, _, there in self.steps[here]:
                    heapq.heappush(queue, (cost + price, there))
        return costs


def long_yard(count):
    """A yard of so many crates with unlike prices of thirty figures, some ways of some crates barred."""
    return Yard([
        [None if (7 * crate + at) % 23 == 5 else 10 ** 29 + 10 ** 27 * ((31 * crate + 17 * at) % 89) + crate
         for at in range(6)]
        for crate in range(count)
    ])


def plain_sum(parts):
    """The sum of numbers and of None, which is greater than all numbers."""
    return ENDLESS if None in parts else sum(parts)


def plain_lines(yard, count, way, table):
    """Both lines for the count + 1 smallest crates and a way, as the document tells them, of the table of count."""
    price = dict(zip(WAYS, yard.rows()[len(yard) - 1 - count]))
    first, last = way
    (over,) = set("abc") - set(way)
    straight = [table[first + over], price[way], table[over + last]]
    turning = [table[way], price[first + over], table[last + first], price[over + last], table[way]]
    return [plain_sum(straight), plain_sum(turning)]


def changed_papers(lists):
    """Copies of a list of dicts of costs, each one with another number, or None, at one place."""
    for at, level in enumerate(lists):
        for name, cost in level.items():
            others = [0, 1, 3, 10 ** 31] if cost is None else [cost + 1, cost - 1, cost // 2, None, 0]
            for other in others:
                if other is None or other >= 0:
                    yield [{**level, name: other} if k == at else dict(level) for k, level in enumerate(lists)]


def no_costs():
    """Values that are neither integers from 0 on nor None."""
    return [True, False, -1, "0", "1", "", [], [0], (0,), {}, {0: 0}, Yard.even(1, 1)]


class RefusalCase(unittest.TestCase):
    """A test case that can ask for exceptions with their very values."""

    def assert_refused(self, kind, value, call, *args, **names):
        before = repr((args, names))
        with self.assertRaises(CratesError) as caught:
            call(*args, **names)
        self.assertIs(type(caught.exception), kind)
        self.assertIs(caught.exception.value, value)
        self.assertEqual(repr((args, names)), before)

    def assert_not_allowed(self, index, call, *args, **names):
        before = repr((args, names))
        with self.assertRaises(CratesError) as caught:
            call(*args, **names)
        self.assertIs(type(caught.exception), NotAllowed)
        self.assertEqual((type(caught.exception.index), caught.exception.index), (int, index))
        self.assertEqual(repr((args, names)), before)

    def assert_too_many(self, count, call, *args, **names):
        with self.assertRaises(CratesError) as caught:
            call(*args, **names)
        self.assertIs(type(caught.exception), TooMany)
        self.assertEqual((type(caught.exception.count), caught.exception.count), (int, count))

    def assert_unlike(self, call, *args, **names):
        with self.assertRaises(CratesError) as caught:
            call(*args, **names)
        self.assertIs(type(caught.exception), UnlikeYards)

    def assert_no_way(self, start, goal, call, *args, **names):
        with self.assertRaises(CratesError) as caught:
            call(*args, **names)
        self.assertIs(type(caught.exception), NoWay)
        self.assertIs(caught.exception.start, start)
        self.assertIs(caught.exception.goal, goal)
