"""Tests of cheapest rows counted: promises 5 to 10, 81 and 82."""

import unittest

from cratetowers.costs import least
from cratetowers.counting import count_cheapest, fewest_moves, lies_on_all, lies_on_some, most_moves
from cratetowers.errors import InvalidArrangement, InvalidYard
from cratetowers.ways import Way
from cratetowers.yards import Yard
from tests.helpers import (
    PlainSearch, RefusalCase, all_arrangements, long_yard, no_arrangements, no_yards, plain_sum, random_yard,
    searched_yards,
)

# Straight from a to b or back and over c it costs the same.
TIES = [2, 1, 2, 1, 1, 1]
NEXT_DOOR = [1, None, 1, 1, None, 1]
START60 = "abcacbbacabccba" * 4
GOAL60 = "cabbacacbcbaabc" * 4
NUMBERS = [fewest_moves, most_moves]
LIES = [lies_on_some, lies_on_all]


def tied_yards():
    """Small yards with prices that are small and alike, some of them with bars."""
    for count in range(1, 4):
        yield Yard([TIES] * count)
        yield Yard([[2, 1, 1, 1, 1, 2]] * count)
        yield Yard([[3 ** crate + 2, 1, 1, 1, 1, 1] for crate in reversed(range(count))])
        for seed in range(4):
            yield random_yard(seed, count, [1, 1, 2, 3])
            yield random_yard(seed, count, [1, 2, 3, 4, 5, 6])
            yield random_yard(seed, count, [1, 2, 2, None])
    for seed in range(4):
        yield random_yard(seed, 4, [1, 1, 2, 3, 4, 5, 8])
        yield random_yard(seed, 4, [1, 2, 3, None])


def pairs_of(yard):
    every = all_arrangements(yard)
    step = {1: 1, 2: 1, 3: 11, 4: 131}[len(yard)]
    return [(start, goal) for start in every for goal in every][::step]


class RefusalsTest(RefusalCase):
    def test_wrong_yards_are_refused_ahead_of_all_else(self):
        for value in no_yards():
            for call in [count_cheapest, *NUMBERS]:
                self.assert_refused(InvalidYard, value, call, value, "x", "y")
            for call in LIES:
                self.assert_refused(InvalidYard, value, call, value, None, None, None)

    def test_wrong_arrangements_are_refused_in_their_order(self):
        for count in (2, 13):
            yard = Yard.even(count, 2)
            right = ("ab" * 6 + "c")[:count]
            for value in no_arrangements(count):
                for call in [count_cheapest, *NUMBERS]:
                    self.assert_refused(InvalidArrangement, value, call, yard, value, "x")
                    self.assert_refused(InvalidArrangement, value, call, yard, right, value)
                for call in LIES:
                    self.assert_refused(InvalidArrangement, value, call, yard, value, "x", [])
                    self.assert_refused(InvalidArrangement, value, call, yard, right, value, "x")
                    self.assert_refused(InvalidArrangement, value, call, yard, right, right, value)

    def test_where_no_row_leads_there_is_no_way(self):
        for count in (1, 5, 13, 60):
            yard = Yard([[None, 1, None, 1, None, None]] + [[1] * 6] * (count - 1))
            start, goal = "b" + "a" * (count - 1), "a" + "c" * (count - 1)
            for call in NUMBERS:
                self.assert_no_way(start, goal, call, yard, start, goal)
            for value in ["x", None, start]:
                for call in LIES:
                    self.assert_no_way(start, goal, call, yard, start, goal, value)

    def test_too_many_crates_are_told_at_last(self):
        for count in (13, 14, 60):
            yard = Yard.even(count, 2)
            barred = Yard([[None] * 6] * count)
            start, goal = "a" * count, "b" * count
            for pair in [(start, goal), (goal, start), (start, start)]:
                self.assert_too_many(count, count_cheapest, yard, *pair)
                self.assert_too_many(count, count_cheapest, barred, *pair)
                for arrangement in (start, goal, "c" * count):
                    self.assert_too_many(count, lies_on_all, yard, *pair, arrangement)
            self.assert_too_many(count, lies_on_all, barred, start, start, goal)
            self.assert_no_way(start, goal, lies_on_all, barred, start, goal, start)
            self.assert_refused(InvalidArrangement, "aa", lies_on_all, yard, start, goal, "aa")

    def test_arguments_by_their_names(self):
        yard = Yard([TIES] * 2)
        self.assertEqual(count_cheapest(goal="bb", start="aa", yard=yard), count_cheapest(yard, "aa", "bb"))
        for call in NUMBERS:
            self.assertEqual(call(goal="cb", start="ab", yard=yard), call(yard, "ab", "cb"))
        for call in LIES:
            self.assertIs(call(arrangement="ac", goal="bc", start="ac", yard=yard), True)
            self.assertIs(call(arrangement="bb", goal="ac", start="ab", yard=yard), False)


class SearchedTest(unittest.TestCase):
    def test_numbers_of_rows_and_of_moves(self):
        several = 0
        for yard in [*tied_yards(), *searched_yards(3)]:
            search = PlainSearch(yard)
            for start, goal in pairs_of(yard):
                with self.subTest(yard=str(yard), start=start, goal=goal):
                    rows = search.cheapest_rows(start, goal)
                    several += len(rows) > 1
                    self.assertEqual(count_cheapest(yard, start, goal), len(rows))
                    if rows:
                        self.assertEqual(fewest_moves(yard, start, goal), min(map(len, rows)) - 1)
                        self.assertEqual(most_moves(yard, start, goal), max(map(len, rows)) - 1)
        self.assertGreater(several, 500)

    def test_what_lies_on_some_and_on_all(self):
        told = {(some, all_): 0 for some in (True, False) for all_ in (True, False)}
        for yard in tied_yards():
            search = PlainSearch(yard)
            every = all_arrangements(yard)[::1 if len(yard) < 4 else 4]
            for start, goal in pairs_of(yard)[::1 if len(yard) < 2 else 5]:
                rows = [set(row) for row in search.cheapest_rows(start, goal)]
                for arrangement in every if rows else []:
                    with self.subTest(yard=str(yard), start=start, goal=goal, arrangement=arrangement):
                        on = [arrangement in row for row in rows]
                        self.assertIs(lies_on_some(yard, start, goal, arrangement), any(on))
                        self.assertIs(lies_on_all(yard, start, goal, arrangement), all(on))
                        told[any(on), all(on)] += 1
        self.assertEqual(told.pop((False, True)), 0)
        self.assertGreater(min(told.values()), 100)


class CountsTest(unittest.TestCase):
    def test_the_same_arrangement(self):
        for yard in (Yard.even(12, 3), Yard([[None] * 6] * 12)):
            start = "abc" * 4
            self.assertEqual(count_cheapest(yard, start, start), 1)
            self.assertEqual([fewest_moves(yard, start, start), most_moves(yard, start, start)], [0, 0])
            for arrangement in (start, "abc" * 3 + "aba", "c" * 12):
                self.assertIs(lies_on_some(yard, start, start, arrangement), arrangement == start)
                self.assertIs(lies_on_all(yard, start, start, arrangement), arrangement == start)

    def test_no_row_counts_nothing(self):
        for count in (1, 12):
            yard = Yard([[None] * 6] * count)
            self.assertEqual(count_cheapest(yard, "a" * count, "b" * count), 0)

    def test_both_sums_alike(self):
        # The larger crate goes from a to b: straight, with its rest at c, or over c, with its rest at b and then at a.
        yard = Yard([[3, 3, 1, 1, 1, 1], [1, 1, 1, 1, 1, 1]])
        self.assertEqual(count_cheapest(yard, "ab", "ba"), 2)
        self.assertEqual([fewest_moves(yard, "ab", "ba"), most_moves(yard, "ab", "ba")], [3, 3])
        self.assertIs(lies_on_some(yard, "ab", "ba", "ac"), True)
        self.assertIs(lies_on_all(yard, "ab", "ba", "ac"), False)
        self.assertIs(lies_on_all(yard, "ab", "ba", "ba"), True)

    def test_ties_at_each_level_of_twelve_crates(self):
        rows = [[2, 1, 1, 1, 1, 1]]
        counted = [2]
        while len(rows) < 12:
            # With 1 for all other prices, a price from a to b can be set so that both lines to b are alike in cost.
            below = len(rows)
            straight = Way(Yard(rows), "a" * below, "c" * below).cost + Way(Yard(rows), "c" * below, "b" * below).cost
            to_b, back = [Way(Yard(rows), pair[0] * below, pair[1] * below).cost for pair in ("ab", "ba")]
            price = 2 * to_b + back + 2 - straight
            halves = [count_cheapest(Yard(rows), pair[0] * below, pair[1] * below) for pair in ("ac", "cb", "ab", "ba")]
            rows = [[price, 1, 1, 1, 1, 1], *rows]
            counted.append(count_cheapest(Yard(rows), "a" * len(rows), "b" * len(rows)))
            self.assertEqual(counted[-1], halves[0] * halves[1] + halves[2] * halves[3] * halves[2])
        self.assertGreater(counted[-1], 10 ** 50)
        whole = Yard(rows)
        start, goal = "a" * 12, "b" * 12
        self.assertIs(lies_on_all(whole, start, goal, start), True)
        self.assertIs(lies_on_some(whole, start, goal, "a" + "c" * 11), True)
        self.assertIs(lies_on_all(whole, start, goal, "a" + "c" * 11), False)
        self.assertLess(fewest_moves(whole, start, goal), most_moves(whole, start, goal))

    def test_the_number_is_the_product_of_the_parts(self):
        for seed in range(6):
            yard = random_yard(seed, 12, [1, 2, 3])
            start, goal = "a" + "b" * 11, "b" + "a" * 11
            way = Way(yard, start, goal)
            self.assertGreaterEqual(count_cheapest(yard, start, goal), 1)
            self.assertLessEqual(fewest_moves(yard, start, goal), way.moves)
            self.assertGreaterEqual(most_moves(yard, start, goal), way.moves)
            if count_cheapest(yard, start, goal) == 1:
                self.assertEqual(fewest_moves(yard, start, goal), most_moves(yard, start, goal))


class SixtyCratesTest(unittest.TestCase):
    def test_moves_of_one_price(self):
        yard = Yard.even(60, 10 ** 30 - 1)
        for call in NUMBERS:
            self.assertEqual(call(yard, "a" * 60, "c" * 60), 2 ** 60 - 1)

    def test_the_longest_row(self):
        yard = Yard([NEXT_DOOR] * 60)
        for call in NUMBERS:
            self.assertEqual(call(yard, "a" * 60, "c" * 60), 3 ** 60 - 1)

    def test_the_cheapest_row_counts_and_not_the_shortest_one(self):
        # The straight line of crate 0 costs 1 more than the turning one, and has a third of its moves.
        yard = Yard([[1, 2 * 3 ** 59 + 1, 1, 1, 1, 1]] + [NEXT_DOOR] * 59)
        for call in NUMBERS:
            self.assertEqual(call(yard, "a" * 60, "c" * 60), 3 ** 60 - 1)
        yard = yard.with_price(0, "ac", 2 * 3 ** 59)
        self.assertEqual(fewest_moves(yard, "a" * 60, "c" * 60), 2 * (3 ** 59 - 1) // 2 + 1)
        self.assertEqual(most_moves(yard, "a" * 60, "c" * 60), 3 ** 60 - 1)
        yard = yard.with_price(0, "ac", 2 * 3 ** 59 - 1)
        self.assertEqual(most_moves(yard, "a" * 60, "c" * 60), 3 ** 59)

    def test_fewest_and_most_moves_with_ties(self):
        # Two moves of the smallest crate over c cost as much as one from a to b; it is alone on the way.
        yard = Yard([[1] * 6] * 59 + [[2, 1, 1, 1, 1, 1]])
        self.assertEqual(fewest_moves(yard, "a" * 60, "a" * 59 + "b"), 1)
        self.assertEqual(most_moves(yard, "a" * 60, "a" * 59 + "b"), 2)

    def test_between_other_arrangements(self):
        yard = long_yard(60)
        way = Way(yard, START60, GOAL60)
        self.assertLessEqual(fewest_moves(yard, START60, GOAL60), way.moves)
        self.assertGreaterEqual(most_moves(yard, START60, GOAL60), way.moves)
        for count in (0, 1, way.moves // 3, way.moves - 1, way.moves):
            self.assertIs(lies_on_some(yard, START60, GOAL60, way.behind(count)), True)
        for arrangement in ("a" * 60, "b" * 60, START60[:30] + GOAL60[30:]):
            over = plain_sum([least(yard, START60, arrangement), least(yard, arrangement, GOAL60)])
            self.assertIs(lies_on_some(yard, START60, GOAL60, arrangement), over == way.cost)


class KindsTest(unittest.TestCase):
    def test_kinds(self):
        yard = Yard([TIES] * 3)
        for call in [count_cheapest, *NUMBERS]:
            self.assertIs(type(call(yard, "abc", "cba")), int)
            self.assertIs(type(call(yard, "abc", "abc")), int)

    def test_the_examples_of_the_document(self):
        even = Yard.even(3, 1)
        self.assertEqual(
            [count_cheapest(even, "aaa", "ccc"), count_cheapest(even, "aab", "caa"), fewest_moves(even, "aab", "caa"),
             most_moves(even, "aab", "caa")],
            [1, 2, 7, 7],
        )
        single = Yard([[2, 1, 2, 1, 1, 1]])
        self.assertEqual(
            [count_cheapest(single, "a", "b"), fewest_moves(single, "a", "b"), most_moves(single, "a", "b")],
            [2, 1, 2],
        )
        self.assertEqual(
            [lies_on_some(even, "aaa", "ccc", "abb"), lies_on_all(even, "aaa", "ccc", "cbb"),
             lies_on_some(even, "aaa", "ccc", "bbb")],
            [True, True, False],
        )


if __name__ == "__main__":
    unittest.main()
