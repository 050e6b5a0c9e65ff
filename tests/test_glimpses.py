"""Tests of what is told back: promises 5 to 10, and 131 to 133."""

import itertools
import unittest

from cratetowers.costs import least
from cratetowers.errors import InvalidArrangement, InvalidCosts, InvalidCrate, InvalidWay, InvalidYard
from cratetowers.glimpses import closed, moment, parting_pair, price_range, same_costs
from cratetowers.rows import all_behind
from cratetowers.ways import Way
from cratetowers.yards import WAYS, Yard
from tests.helpers import (
    PlainSearch, RefusalCase, all_arrangements, long_yard, no_arrangements, no_yards, odd_values, random_yard,
    searched_yards,
)

YARD = Yard([[9, 2, 9, 2, 2, 2], [1, 1, 1, 1, 1, 5]])
START60 = "abcacbbacabccba" * 4
GOAL60 = "cabbacacbcbaabc" * 4
SEEN = ("aa", "ba", 2)


def no_seen():
    """Values that are no lists of 1 to 20 costs seen in a yard of two crates."""
    items = [
        None, "aa", 1, ("aa", "ba"), ("aa", "ba", 2, 2), ["aa", "ba", 2], ("aa", "b", 2), ("a", "ba", 2),
        ("aaa", "ba", 2), ("aa", "bd", 2), ("aa", None, 2), (None, "ba", 2), ("aa", "ba", -1), ("aa", "ba", True),
        ("aa", "ba", False), ("aa", "ba", "2"), ("aa", "ba", [2]), ("aa", "ba", YARD), (2, "aa", "ba"),
        (["aa"], "ba", 2),
        {"aa": "ba"}, (), [], YARD, ("aa", "ba", ()), (("aa",), "ba", 2),
    ]
    lists = [*[[item] for item in items], *[[SEEN, item] for item in items], [SEEN] * 21, (SEEN,) * 21, [SEEN] * 100]
    return [*odd_values(), SEEN, *lists, {0: SEEN}, 0, 2]


def fits_with(yard, crate, way, price, seen):
    """Tell by a search whether a price fits what was seen."""
    search = PlainSearch(yard.with_price(crate, way, price))
    return all(search.cost(start, goal) == cost for start, goal, cost in seen)


class RefusalsTest(RefusalCase):
    def test_wrong_yards_are_refused_ahead_of_all_else(self):
        for value in no_yards():
            self.assert_refused(InvalidYard, value, moment, value, None, None, None)
            self.assert_refused(InvalidYard, value, price_range, value, None, None, None)
            self.assert_refused(InvalidYard, value, closed, value)
            for call in (same_costs, parting_pair):
                self.assert_refused(InvalidYard, value, call, value, "x")
                self.assert_refused(InvalidYard, value, call, YARD, value)

    def test_wrong_arrangements_are_refused_ahead_of_no_way(self):
        barred = Yard([[None] * 6] * 2)
        for yard in (YARD, barred):
            for value in no_arrangements(2):
                self.assert_refused(InvalidArrangement, value, moment, yard, value, "x", "y")
                self.assert_refused(InvalidArrangement, value, moment, yard, "aa", value, "y")
                self.assert_refused(InvalidArrangement, value, moment, yard, "aa", "bb", value)

    def test_where_no_row_leads_there_is_no_way(self):
        for count in (1, 2, 60):
            yard = Yard([[None] * 6] * count)
            start, goal = "a" * count, "b" * count
            for arrangement in (start, goal, "c" * count):
                self.assert_no_way(start, goal, moment, yard, start, goal, arrangement)

    def test_wrong_crates_and_ways_are_refused_ahead_of_costs(self):
        for value in [*odd_values(), 2, 60, "0", [0]]:
            if value != 0 or isinstance(value, bool):
                self.assert_refused(InvalidCrate, value, price_range, YARD, value, "x", [])
        for value in [value for value in [*odd_values(), "aa", "abc", 0, ["ab"]] if value != "ab"]:
            self.assert_refused(InvalidWay, value, price_range, YARD, 0, value, [])

    def test_wrong_costs_are_refused_at_last(self):
        for value in no_seen():
            self.assert_refused(InvalidCosts, value, price_range, YARD, 0, "ab", value)

    def test_yards_with_unlike_numbers_of_crates(self):
        for one, other in itertools.permutations([YARD, Yard.even(1, 1), Yard.even(3, 1), Yard([[None] * 6] * 60)], 2):
            for call in (same_costs, parting_pair):
                self.assert_unlike(call, one, other)

    def test_arguments_by_their_names(self):
        self.assertEqual(moment(arrangement="cb", goal="ca", start="aa", yard=YARD), 2)
        told = price_range(seen=[("ac", "ab", 2)], way="cb", crate=1, yard=YARD)
        self.assertEqual(told, (2, None, True))
        self.assertEqual(closed(yard=YARD), closed(YARD))
        other = Yard.even(2, 1)
        self.assertIs(same_costs(other=other, one=YARD), False)
        self.assertEqual(parting_pair(other=other, one=YARD), parting_pair(YARD, other))


class MomentTest(unittest.TestCase):
    def test_all_arrangements_of_small_yards(self):
        for yard in searched_yards(3):
            every = all_arrangements(yard)
            search = PlainSearch(yard)
            for start, goal in itertools.product(every[::len(yard) * 2 - 1], every[::len(yard) ** 2]):
                if search.cost(start, goal) is not None:
                    row = Way(yard, start, goal)
                    stops = all_behind(yard, start, row.first(row.moves))
                    for arrangement in every:
                        right = stops.index(arrangement) if arrangement in stops else None
                        self.assertEqual(moment(yard, start, goal, arrangement), right)

    def test_the_same_arrangement(self):
        for yard in (Yard.even(60, 1), Yard([[None] * 6] * 60)):
            self.assertEqual(moment(yard, START60, START60, START60), 0)
            self.assertIsNone(moment(yard, START60, START60, GOAL60))

    def test_sixty_crates(self):
        for yard in (long_yard(60), Yard.even(60, 1), Yard([[1, None, 1, 1, None, 1]] * 60)):
            row = Way(yard, START60, GOAL60)
            for count in [0, 1, 2, row.moves // 3, row.moves // 2, row.moves - 1, row.moves]:
                self.assertEqual(moment(yard, START60, GOAL60, row.behind(count)), count)
        row = Way(Yard.even(60, 1), "a" * 60, "c" * 60)
        # On its way through, the smallest crate of an even row never has the largest ones come to b.
        self.assertIsNone(moment(Yard.even(60, 1), "a" * 60, "c" * 60, "b" * 60))
        self.assertEqual(moment(Yard.even(60, 1), "a" * 60, "c" * 60, "c" + "b" * 59), 2 ** 59)
        self.assertIs(type(moment(Yard.even(60, 1), "a" * 60, "c" * 60, "c" * 60)), int)


class PriceRangeTest(unittest.TestCase):
    def assert_range(self, yard, crate, way, seen, most):
        """Ask for the range that is found by trying all prices up to a greatest one."""
        low, high, barred = price_range(yard, crate, way, seen)
        fitting = [price for price in range(1, most) if fits_with(yard, crate, way, price, seen)]
        self.assertIs(barred, fits_with(yard, crate, way, None, seen))
        self.assertIs(type(barred), bool)
        if low is None or low >= most:
            self.assertEqual(fitting, [])
            self.assertTrue(low is not None or high is None)
        else:
            self.assertEqual(fitting, list(range(low, most if high is None else min(high + 1, most))))
        for price in [price for price in (low, high) if price is not None]:
            self.assertTrue(fits_with(yard, crate, way, price, seen))
        if low is not None and high is None:
            self.assertTrue(fits_with(yard, crate, way, 10 ** 79, seen))

    def test_prices_tried_one_by_one(self):
        for yard in [*searched_yards(2), random_yard(3, 3, [1, 2, 4, None]), random_yard(5, 3, [1, 2, 7])]:
            every = all_arrangements(yard)
            pairs = list(itertools.product(every, repeat=2))[::{1: 2, 2: 17, 3: 181}[len(yard)]]
            for crate, way in itertools.product(range(len(yard)), WAYS[len(yard) - 1::2]):
                for start, goal in pairs:
                    costs = {least(yard.with_price(crate, way, price), start, goal) for price in (1, 3, 6, None)}
                    for cost in costs | {0, 4}:
                        with self.subTest(yard=str(yard), crate=crate, way=way, start=start, goal=goal, cost=cost):
                            self.assert_range(yard, crate, way, [(start, goal, cost)], 12)

    def test_many_costs_seen(self):
        for seed in range(8):
            yard = random_yard(seed, 2, [1, 2, 3, 5, None])
            every = all_arrangements(yard)
            pairs = list(itertools.product(every, repeat=2))[seed::5]
            for crate, way in itertools.product((0, 1), WAYS):
                for price in (2, 4, None):
                    changed = yard.with_price(crate, way, price)
                    seen = [(start, goal, least(changed, start, goal)) for start, goal in pairs]
                    for known in (seen[:3], seen[:16], (*seen[3:8], seen[3])):
                        self.assert_range(yard, crate, way, known, 9)
                        low, high, barred = price_range(yard, crate, way, known)
                        self.assertTrue(barred if price is None else low <= price and (high is None or high >= price))

    def test_costs_that_contradict_each_other(self):
        for seen in (
            [("ac", "ab", 2), ("ac", "ab", 1)], [("ac", "ab", 2), ("ac", "ab", None)], [("aa", "aa", 1)],
            [("aa", "aa", None)], [("ac", "ab", 3)], [("ac", "ab", 0)],
        ):
            self.assertEqual(price_range(YARD, 1, "cb", seen), (None, None, False))
        # The first one tells 6, the other one 1.
        seen = [("a", "b", 6), ("c", "b", 2)]
        yard = Yard([[1, 4, 1, 1, 1, 3]])
        self.assertEqual([price_range(yard, 0, "ab", [one])[:2] for one in seen], [(6, 6), (1, 1)])
        for order in (seen, seen[::-1]):
            self.assertEqual(price_range(yard, 0, "ab", order), (None, None, False))

    def test_what_always_fits(self):
        for yard in (YARD, Yard([[None] * 6] * 2)):
            self.assertEqual(price_range(yard, 0, "ab", [("ab", "ab", 0)]), (1, None, True))
            self.assertEqual(price_range(yard, 0, "ab", (("ab", "ab", 0),) * 20), (1, None, True))
        barred = Yard([[None] * 6] * 2)
        self.assertEqual(price_range(barred, 0, "ab", [("aa", "ac", None)]), (1, None, True))
        self.assertEqual(price_range(barred, 0, "ab", [("ac", "bc", None)]), (None, None, True))
        self.assertEqual(price_range(barred, 0, "ab", [("ac", "bc", 7)]), (7, 7, False))
        self.assertEqual(price_range(barred, 0, "ab", [("ac", "bc", 10 ** 79)]), (10 ** 79, 10 ** 79, False))

    def test_a_bar_fits_and_no_price(self):
        yard = Yard([[1, None, None, None, None, None]])
        self.assertEqual(price_range(yard, 0, "ab", [("a", "b", None)]), (None, None, True))
        self.assertEqual(price_range(yard, 0, "ab", [("a", "c", None)]), (1, None, True))

    def test_stretches_meet(self):
        # Straight it costs the price, and over c it costs 7.
        yard = Yard([[1, 4, 1, 1, 1, 3]])
        self.assertEqual(price_range(yard, 0, "ab", [("a", "b", 7)]), (7, None, True))
        self.assertEqual(price_range(yard, 0, "ab", [("a", "b", 6)]), (6, 6, False))
        self.assertEqual(price_range(yard, 0, "ab", [("a", "b", 8)]), (None, None, False))
        self.assertEqual(price_range(yard, 0, "ab", [("a", "b", 7), ("a", "c", 4)]), (7, None, True))
        self.assertEqual(price_range(yard, 0, "ab", [("a", "c", 4), ("a", "b", 6), ("b", "a", 1)]), (6, 6, False))
        self.assertEqual(price_range(yard, 0, "ab", [("a", "c", 4)]), (3, None, True))
        self.assertEqual(price_range(yard, 0, "ab", [("a", "c", 4), ("a", "b", 2)]), (None, None, False))

    def test_sixty_crates(self):
        yard = long_yard(60)
        seen = [(START60, GOAL60, least(yard, START60, GOAL60)), (GOAL60, START60, least(yard, GOAL60, START60))]
        for crate, way in [(0, "ac"), (30, "ba"), (59, "ab"), (59, "ca"), (58, "bc")]:
            price = yard.price(crate, way)
            low, high, barred = price_range(yard, crate, way, seen * 10)
            self.assertTrue(barred if price is None else low <= price and (high is None or price <= high))
            for kept in () if low is None else (low, low + 10 ** 79 if high is None else high):
                changed = yard.with_price(crate, way, kept)
                self.assertEqual([least(changed, *pair[:2]) for pair in seen], [cost for _, _, cost in seen])
            self.assertIs(barred, [least(yard.with_price(crate, way, None), *pair[:2]) for pair in seen] == [
                cost for _, _, cost in seen
            ])


class ClosedTest(unittest.TestCase):
    def test_least_costs_stay_the_same(self):
        for yard in searched_yards(3):
            shut = closed(yard)
            self.assertEqual(closed(shut), shut)
            self.assertIs(same_costs(yard, shut), True)
            self.assertIsNone(parting_pair(shut, yard))
            one, other = PlainSearch(yard), PlainSearch(shut)
            for pair in list(itertools.product(one.arrangements, repeat=2))[::len(yard)]:
                self.assertEqual(one.cost(*pair), other.cost(*pair))

    def test_prices_are_the_least_costs_of_such_moves(self):
        for yard in [*searched_yards(3), random_yard(1, 4, [1, 5, 9, None])]:
            search = PlainSearch(yard)
            shut = closed(yard)
            for crate, way in itertools.product(range(len(yard)), WAYS):
                (aside,) = set("abc") - set(way)
                rest = aside * (len(yard) - 1 - crate)
                for larger in ("a" * crate, "b" * crate):
                    cost = search.cost(larger + way[0] + rest, larger + way[1] + rest)
                    self.assertEqual(shut.price(crate, way), cost)

    def test_yards_are_the_same_just_if_all_costs_are(self):
        yards = [random_yard(seed, 2, [1, 2, 3]) for seed in range(4)]
        yards += [closed(yard) for yard in yards] + [random_yard(seed, 2, [1, 4, None]) for seed in range(4)]
        yards += [yard.with_price(0, "ab", 30) for yard in yards] + [yard.with_price(1, "ca", 40) for yard in yards]
        told = {True: 0, False: 0}
        searches = [PlainSearch(yard) for yard in yards]
        every = all_arrangements(yards[0])
        for (one, first), (other, last) in itertools.product(zip(yards, searches), repeat=2):
            same = all(first.cost(start, goal) == last.cost(start, goal) for start in every for goal in every)
            self.assertIs(same_costs(one, other), same)
            told[same] += 1
            pair = parting_pair(one, other)
            if same:
                self.assertIsNone(pair)
            else:
                self.assertIs(type(pair), tuple)
                self.assertNotEqual(first.cost(*pair), last.cost(*pair))
        self.assertGreater(min(told.values()), 50)

    def test_sixty_crates(self):
        yard = long_yard(60)
        shut = closed(yard)
        self.assertEqual(closed(shut), shut)
        self.assertEqual(least(shut, START60, GOAL60), least(yard, START60, GOAL60))
        self.assertIs(same_costs(yard, shut), True)
        for crate, way in [(0, "ab"), (30, "ca"), (59, "bc"), (17, "ba")]:
            other = yard.with_price(crate, way, 1)
            self.assertIs(same_costs(yard, other), False)
            start, goal = parting_pair(yard, other)
            self.assertNotEqual(least(yard, start, goal), least(other, start, goal))
        # A way that costs more than going over the third place never matters.
        even = Yard.even(60, 1)
        for price, other_price in [(3, 4), (2, None), (None, 10 ** 79)]:
            pair = (even.with_price(59, "ab", price), even.with_price(59, "ab", other_price))
            self.assertIs(same_costs(*pair), True)
            self.assertIsNone(parting_pair(*pair))

    def test_a_bar_and_a_price(self):
        one, other = Yard([[None] * 6, [1] * 6]), Yard([[None, None, None, None, 7, None], [1] * 6])
        self.assertEqual(set(parting_pair(one, other)), {"cb", "ab"})
        self.assertEqual(closed(one), one)
        self.assertEqual(closed(other), other)

    def test_equal_yards_give_the_same_pair(self):
        one, other = random_yard(1, 5, [1, 2, 3, None]), random_yard(2, 5, [1, 2, 3, None])
        self.assertEqual(parting_pair(one, other), parting_pair(Yard(one.rows()), Yard(tuple(other.rows()))))

    def test_the_examples_of_the_document(self):
        self.assertEqual(
            [moment(YARD, "aa", "ca", text) for text in ["aa", "ab", "cb", "ca", "cc"]], [0, 1, 2, 3, None]
        )
        self.assertEqual(
            [price_range(YARD, 1, "cb", [("ac", "ab", 2)]), price_range(YARD, 1, "cb", [("ac", "ab", 1)]),
             price_range(YARD, 0, "ab", [("aa", "ba", 2)])],
            [(2, None, True), (1, 1, False), (None, None, False)],
        )
        self.assertEqual(
            [closed(YARD).rows(), same_costs(YARD, closed(YARD)), parting_pair(YARD, YARD.with_price(1, "cb", 9))],
            [[[8, 2, 7, 2, 2, 2], [1, 1, 1, 1, 1, 2]], True, None],
        )
        self.assertIs(same_costs(YARD, YARD.with_price(1, "cb", 1)), False)


if __name__ == "__main__":
    unittest.main()
