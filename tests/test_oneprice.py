"""Tests of one price changed: promises 5 to 10, and 111 to 114."""

import unittest

from cratetowers.costs import least
from cratetowers.errors import InvalidArrangement, InvalidCrate, InvalidPrice, InvalidWay, InvalidYard
from cratetowers.oneprice import cost_with, fewest_uses, kept_range, pieces
from cratetowers.rows import all_behind
from cratetowers.ways import Way
from cratetowers.yards import WAYS, Yard
from tests.helpers import (
    PlainSearch, RefusalCase, all_arrangements, long_yard, no_arrangements, no_yards, odd_values, random_yard,
    searched_yards,
)

YARD = Yard([[5, 2, 5, 2, None, 2], [1, 1, 1, 1, 1, 1]])
START60 = "abcacbbacabccba" * 4
GOAL60 = "cabbacacbcbaabc" * 4
TOLD = [kept_range, fewest_uses]
NO_PRICES = [0, True, False, -1, -10 ** 79, "", "1", "-", [], [1], (1,), {}, {1: 1}, YARD]


def plain_row(yard, start, goal):
    """The steps of the told row: pairs of a crate and of a way."""
    row = Way(yard, start, goal)
    moves = row.first(row.moves)
    stops = all_behind(yard, start, moves)
    return [(crate, here[crate] + place) for here, (crate, place) in zip(stops, moves)]


def is_kept(steps, yard, start, goal):
    """Tell by a search whether the row of some steps is a cheapest one in a yard."""
    return sum(yard.price(*step) for step in steps) == PlainSearch(yard).cost(start, goal)


def cases(yard, step):
    """Some of all starts, goals, crates and ways of a small yard between which a row leads."""
    every = all_arrangements(yard)
    all_cases = [
        (start, goal, crate, way)
        for start in every for goal in every for crate in range(len(yard)) for way in WAYS
    ]
    search = PlainSearch(yard)
    return [case for case in all_cases[::step] if search.cost(*case[:2]) is not None]


def cases_of(yard):
    return cases(yard, {1: 5, 2: 71, 3: 1511, 4: 40013}[len(yard)])


def small_yards():
    yield from searched_yards(3)
    for seed in range(3):
        yield random_yard(seed, 4, [1, 1, 2, 3, 8, None])
        yield random_yard(seed, 4, [10 ** 29, 10 ** 30 - 1, 2])


def lowest_uses(yard, start, goal, crate, way):
    """The least number of uses of a way by a crate, by a search in which nothing else costs anything."""
    steps = PlainSearch(yard).steps
    found = {start: 0}
    while True:
        better = dict(found)
        for here in found:
            for _, (moving, place), there in steps[here]:
                uses = found[here] + (moving == crate and here[moving] + place == way)
                if uses < better.get(there, uses + 1):
                    better[there] = uses
        if better == found:
            return found[goal]
        found = better


def plain_pieces(yard, start, goal, crate, way, low, high):
    """The stretches, told by trying the prices one by one."""
    told = []
    steps = None
    for price in range(low, high + 1):
        changed = yard.with_price(crate, way, price)
        if steps is None or not is_kept(steps, changed, start, goal):
            steps = plain_row(changed, start, goal)
            told.append((price, steps.count((crate, way))))
    return told


class RefusalsTest(RefusalCase):
    def test_wrong_yards_are_refused_ahead_of_all_else(self):
        for value in no_yards():
            self.assert_refused(InvalidYard, value, cost_with, value, None, None, None, None, 0)
            self.assert_refused(InvalidYard, value, pieces, value, None, None, None, None, 0, 0)
            for call in TOLD:
                self.assert_refused(InvalidYard, value, call, value, None, None, None, None)

    def test_wrong_crates_are_refused_ahead_of_ways(self):
        for value in [*odd_values(), 2, 60, 10 ** 80, "0", [0]]:
            if value != 0 or isinstance(value, bool):
                self.assert_refused(InvalidCrate, value, cost_with, YARD, "x", "y", value, "x", 0)
                self.assert_refused(InvalidCrate, value, pieces, YARD, "x", "y", value, "x", 0, 0)
                for call in TOLD:
                    self.assert_refused(InvalidCrate, value, call, YARD, "x", "y", value, "x")

    def test_wrong_ways_are_refused_ahead_of_prices_and_arrangements(self):
        for value in [value for value in [*odd_values(), "aa", "abc", "a", 0, ["ab"]] if value != "ab"]:
            self.assert_refused(InvalidWay, value, cost_with, YARD, "x", "y", 0, value, 0)
            self.assert_refused(InvalidWay, value, pieces, YARD, "x", "y", 0, value, 0, 0)
            for call in TOLD:
                self.assert_refused(InvalidWay, value, call, YARD, "x", "y", 0, value)

    def test_wrong_prices_are_refused_ahead_of_arrangements_by_cost_with(self):
        for value in NO_PRICES:
            self.assert_refused(InvalidPrice, value, cost_with, YARD, "x", "y", 0, "ab", value)

    def test_wrong_arrangements_are_refused_ahead_of_the_rest(self):
        for value in no_arrangements(2):
            for start, goal in [(value, "x"), ("aa", value)]:
                self.assert_refused(InvalidArrangement, value, cost_with, YARD, start, goal, 0, "ab", None)
                self.assert_refused(InvalidArrangement, value, pieces, YARD, start, goal, 0, "ab", 0, 0)
                for call in TOLD:
                    self.assert_refused(InvalidArrangement, value, call, YARD, start, goal, 0, "ab")

    def test_where_no_row_leads_there_is_no_way(self):
        for count in (1, 2, 12):
            yard = Yard([[None, 1, None, 1, None, None]] + [[1] * 6] * (count - 1))
            start, goal = "c" * count, "a" * count
            for crate, way in [(0, "ca"), (0, "ac"), (count - 1, "ab")]:
                for call in TOLD:
                    self.assert_no_way(start, goal, call, yard, start, goal, crate, way)
                self.assert_no_way(start, goal, pieces, yard, start, goal, crate, way, 0, None)
            # Set free, the way leads there.
            self.assertIsNotNone(cost_with(yard, start, goal, 0, "ca", 5))

    def test_wrong_stretches_are_refused_at_last(self):
        for value in [None, *NO_PRICES]:
            self.assert_refused(InvalidPrice, value, pieces, YARD, "aa", "bb", 0, "ab", value, value)
            self.assert_refused(InvalidPrice, value, pieces, YARD, "aa", "bb", 0, "ab", value, 5)
            self.assert_refused(InvalidPrice, value, pieces, YARD, "aa", "bb", 0, "ab", 5, value)
        for low, high in [(2, 1), (10 ** 79, 10 ** 79 - 1), (5, 4)]:
            self.assert_refused(InvalidPrice, high, pieces, YARD, "aa", "bb", 0, "ab", low, high)

    def test_arguments_by_their_names(self):
        self.assertEqual(cost_with(price=9, way="ab", crate=0, goal="bb", start="aa", yard=YARD), 7)
        self.assertEqual(kept_range(way="ab", crate=0, goal="bb", start="aa", yard=YARD), (1, 5))
        self.assertEqual(fewest_uses(way="ab", crate=0, goal="bb", start="aa", yard=YARD), 0)
        told = pieces(high=100, low=1, way="ab", crate=0, goal="bb", start="aa", yard=YARD)
        self.assertEqual(told, [(1, 1), (6, 0)])


class CostWithTest(unittest.TestCase):
    def test_small_yards(self):
        for yard in small_yards():
            for start, goal, crate, way in cases_of(yard)[:12]:
                for price in (1, 2, 7, 10 ** 30 - 1, 10 ** 79, None):
                    right = PlainSearch(yard.with_price(crate, way, price)).cost(start, goal)
                    self.assertEqual(cost_with(yard, start, goal, crate, way, price), right)

    def test_the_yard_stays_as_it_is(self):
        text = str(YARD)
        cost = least(YARD, "aa", "bb")
        cost_with(YARD, "aa", "bb", 0, "ab", 1)
        kept_range(YARD, "aa", "bb", 0, "ca")
        pieces(YARD, "aa", "bb", 0, "ca", 1, 9)
        self.assertEqual([str(YARD), least(YARD, "aa", "bb")], [text, cost])


class KeptTest(unittest.TestCase):
    def test_small_yards(self):
        ends = {"low": 0, "high": 0, "open": 0, "barred": 0}
        for yard in small_yards():
            for start, goal, crate, way in cases_of(yard):
                with self.subTest(yard=str(yard), start=start, goal=goal, crate=crate, way=way):
                    steps = plain_row(yard, start, goal)
                    low, high = kept_range(yard, start, goal, crate, way)
                    prices = [low, low - 1, low + 1] + ([10 ** 79] if high is None else [high, high + 1, high - 1])
                    for price in {price for price in prices if price > 0}:
                        right = price >= low and (high is None or price <= high)
                        changed = yard.with_price(crate, way, price)
                        self.assertIs(is_kept(steps, changed, start, goal), right)
                    ends["low"] += low > 1
                    ends["open"] += high is None
                    ends["high"] += high is not None
                    ends["barred"] += yard.price(crate, way) is None and low > 1
        self.assertGreater(min(ends.values()), 10)

    def test_there_are_no_gaps(self):
        for yard in (YARD, Yard([[4, 1, 3, 1, 1, 2], [1, 1, 2, 1, 3, 1]]), Yard([[2, 1, 1, 1, None, 1]] * 2)):
            for start, goal, crate, way in cases(yard, 37):
                steps = plain_row(yard, start, goal)
                low, high = kept_range(yard, start, goal, crate, way)
                for price in range(1, 20):
                    right = low <= price and (high is None or price <= high)
                    self.assertIs(is_kept(steps, yard.with_price(crate, way, price), start, goal), right)

    def test_the_same_arrangement(self):
        for yard in (YARD, Yard([[None] * 6] * 60)):
            start = "ab" * (len(yard) // 2)
            for crate in (0, len(yard) - 1):
                self.assertEqual(kept_range(yard, start, start, crate, "ca"), (1, None))
                self.assertEqual(fewest_uses(yard, start, start, crate, "ca"), 0)
                self.assertEqual(pieces(yard, start, start, crate, "ca", 1, 10 ** 79), [(1, 0)])

    def test_the_only_way(self):
        yard = Yard([[7, None, None, None, None, None]])
        self.assertEqual(kept_range(yard, "a", "b", 0, "ab"), (1, None))
        self.assertEqual(fewest_uses(yard, "a", "b", 0, "ab"), 1)
        self.assertEqual(pieces(yard, "a", "b", 0, "ab", 3, 10 ** 79), [(3, 1)])

    def test_a_way_that_is_set_free(self):
        yard = Yard([[None, 4, None, None, None, 3]])
        # Over c it costs 7, and from 7 on the way from a to b is no cheaper.
        self.assertEqual(kept_range(yard, "a", "b", 0, "ab"), (7, None))
        self.assertEqual(kept_range(yard, "a", "b", 0, "ba"), (1, None))
        self.assertEqual(fewest_uses(yard, "a", "b", 0, "ab"), 0)
        self.assertEqual(pieces(yard, "a", "b", 0, "ab", 1, 99), [(1, 1), (8, 0)])

    def test_sixty_crates(self):
        for yard in (long_yard(60), Yard.even(60, 10 ** 30 - 1)):
            row = Way(yard, START60, GOAL60)
            for crate, way in [(0, "ac"), (0, "ab"), (30, "ba"), (45, "cb"), (59, "ab"), (59, "ca"), (20, "bc")]:
                low, high = kept_range(yard, START60, GOAL60, crate, way)
                price = yard.price(crate, way)
                uses = row.uses(crate, way)
                rest = row.cost - uses * (price or 0)
                if price is not None:
                    self.assertTrue(low <= price and (high is None or price <= high))
                for kept in (low, 10 ** 79 if high is None else high):
                    self.assertEqual(cost_with(yard, START60, GOAL60, crate, way, kept), rest + uses * kept)
                for dear in ([low - 1] if low > 1 else []) + ([high + 1] if high is not None else []):
                    self.assertLess(cost_with(yard, START60, GOAL60, crate, way, dear), rest + uses * dear)
                self.assertEqual(high is None, uses == fewest_uses(yard, START60, GOAL60, crate, way))


class FewestUsesTest(unittest.TestCase):
    def test_small_yards(self):
        told = set()
        for yard in small_yards():
            for start, goal, crate, way in cases_of(yard):
                with self.subTest(yard=str(yard), start=start, goal=goal, crate=crate, way=way):
                    right = lowest_uses(yard, start, goal, crate, way)
                    self.assertEqual(fewest_uses(yard, start, goal, crate, way), right)
                    told.add(right)
        self.assertGreater(len(told), 3)

    def test_whatever_it_costs(self):
        # Straight costs 1, and over c it costs much more.
        yard = Yard([[1, 10 ** 30, 1, 1, 1, 10 ** 30]] + [[1] * 6] * 3)
        self.assertEqual(fewest_uses(yard, "aaaa", "bbbb", 0, "ab"), 0)
        yard = Yard([[1, None, 1, 1, None, 1]] * 60)
        self.assertEqual(fewest_uses(yard, "a" * 60, "c" * 60, 59, "ab"), (3 ** 59 + 1) // 2)
        self.assertEqual(fewest_uses(yard, "a" * 60, "c" * 60, 0, "bc"), 1)
        self.assertEqual(fewest_uses(yard, "a" * 60, "c" * 60, 0, "cb"), 0)
        self.assertEqual(fewest_uses(yard, "a" * 60, "c" * 60, 0, "ac"), 0)


class PiecesTest(unittest.TestCase):
    def test_small_yards(self):
        most = 0
        for yard in [*searched_yards(2), Yard([[9, 4, 2, 8, 3, 1], [5, 1, 6, 2, 7, 9], [1, 4, 2, 3, 9, 1]])]:
            for start, goal, crate, way in cases(yard, {1: 7, 2: 151, 3: 911}[len(yard)])[:12]:
                with self.subTest(yard=str(yard), start=start, goal=goal, crate=crate, way=way):
                    told = pieces(yard, start, goal, crate, way, 1, 30)
                    self.assertEqual(told, plain_pieces(yard, start, goal, crate, way, 1, 30))
                    most = max(most, len(told))
                    # A later beginning tells of the row that is told at this price.
                    for low, high in [(4, 11), (5, 5)]:
                        right = plain_pieces(yard, start, goal, crate, way, low, high)
                        self.assertEqual(pieces(yard, start, goal, crate, way, low, high), right)
        self.assertGreater(most, 1)

    def test_many_stretches(self):
        for rows, start, goal, crate, way, right in [
            ([[6, 8, 6, 4, 2, 5], [5, 1, 12, 3, 6, 12], [1, 6, 8, 6, 8, 3]], "cbb", "bba", 2, "ba",
             [(1, 3), (4, 2), (6, 1), (14, 0)]),
            ([[2, 4, 12, 4, 3, 8], [12, 5, 3, 6, 3, 3], [1, 2, 8, 12, 6, 2]], "bbb", "abb", 2, "ba",
             [(1, 3), (3, 2), (5, 1), (15, 0)]),
            ([[5, 5, 3, 8, 8, 6], [1, 8, 5, 8, 5, 1]], "bb", "cc", 1, "bc", [(1, 2), (6, 1), (8, 0)]),
        ]:
            yard = Yard(rows)
            self.assertEqual(plain_pieces(yard, start, goal, crate, way, 1, 20), right)
            self.assertEqual(pieces(yard, start, goal, crate, way, 1, 20), right)
            self.assertEqual(pieces(yard, start, goal, crate, way, 1, 10 ** 79), right)
            for price in range(1, 18):
                changed = yard.with_price(crate, way, price)
                steps = plain_row(changed, start, goal)
                kept = [
                    price for price in range(1, 25) if is_kept(steps, yard.with_price(crate, way, price), start, goal)
                ]
                low, high = kept_range(changed, start, goal, crate, way)
                self.assertEqual(kept, list(range(low, 25 if high is None else high + 1)))

    def test_stretches_of_four_crates(self):
        most = 0
        for seed in range(8):
            yard = random_yard(seed, 4, [1, 2, 5, 9, 30, 31])
            for crate, way in [(0, "ab"), (1, "bc"), (2, "ca"), (3, "ab")]:
                told = pieces(yard, "abca", "bcac", crate, way, 1, 10 ** 30)
                most = max(most, len(told))
                uses = [uses for _, uses in told]
                self.assertEqual(uses, sorted(set(uses), reverse=True))
                self.assertEqual(told[0][0], 1)
                for at, (price, uses) in enumerate(told):
                    changed = yard.with_price(crate, way, price)
                    low, high = kept_range(changed, "abca", "bcac", crate, way)
                    self.assertEqual(Way(changed, "abca", "bcac").uses(crate, way), uses)
                    self.assertLessEqual(low, price)
                    self.assertEqual(high, told[at + 1][0] - 1 if at + 1 < len(told) else None)
        self.assertGreater(most, 3)

    def test_twelve_crates(self):
        yard = random_yard(1, 12, [1, 3, 10 ** 6, 10 ** 30 - 1])
        start, goal = "abcabcabcabc", "cabcabccabab"
        for crate, way in [(0, "ac"), (5, "ab"), (11, "bc")]:
            told = pieces(yard, start, goal, crate, way, 1, 10 ** 79)
            for price, uses in told:
                self.assertEqual(Way(yard.with_price(crate, way, price), start, goal).uses(crate, way), uses)
            self.assertEqual(told[-1][1], fewest_uses(yard, start, goal, crate, way))

    def test_new_lists_at_each_call(self):
        told = pieces(YARD, "aa", "bb", 0, "ab", 1, 100)
        told.append("x")
        self.assertEqual(pieces(YARD, "aa", "bb", 0, "ab", 1, 100), [(1, 1), (6, 0)])
        self.assertTrue(all(type(item) is tuple for item in pieces(YARD, "aa", "bb", 0, "ab", 1, 100)))

    def test_the_examples_of_the_document(self):
        self.assertEqual(
            [cost_with(YARD, "aa", "bb", 0, "ab", 9), kept_range(YARD, "aa", "bb", 0, "ab"),
             fewest_uses(YARD, "aa", "bb", 0, "ab")],
            [7, (1, 5), 0],
        )
        self.assertEqual(
            [pieces(YARD, "aa", "bb", 0, "ab", 1, 100), kept_range(YARD, "aa", "cc", 0, "ac"),
             kept_range(YARD, "bb", "cc", 0, "ca")],
            [[(1, 1), (6, 0)], (1, 8), (1, None)],
        )


if __name__ == "__main__":
    unittest.main()
