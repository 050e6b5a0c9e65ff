"""Tests of patterns: promises 5 to 10, and 91 to 94."""

import itertools
import unittest

from cratetowers.costs import least
from cratetowers.errors import InvalidArrangement, InvalidCount, InvalidPattern, InvalidYard
from cratetowers.patterns import (
    cost_between, cost_from, cost_to, fits, home_costs, home_within, how_many_fit, how_many_nearest, is_pattern,
    nearest, nearest_start, pair_between,
)
from cratetowers.yards import Yard
from tests.helpers import (
    CHOICES, PlainSearch, RefusalCase, all_arrangements, long_yard, no_arrangements, no_patterns, no_yards,
    random_patterns, random_yard, searched_yards,
)

YARD = Yard([[5, 6, 7, None, 8, 9], [1, 2, 3, 4, None, 6]])
NEXT_DOOR = [1, None, 1, 1, None, 1]
START60 = "abcacbbacabccba" * 4
GOAL60 = "cabbacacbcbaabc" * 4
FROM_START = [cost_to, nearest, how_many_nearest]
TO_GOAL = [cost_from, nearest_start]
BETWEEN = [cost_between, pair_between]


def fitting(pattern):
    """The arrangements that fit a pattern, in ascending order."""
    return ["".join(places) for places in itertools.product(*pattern)]


def starts_of(yard):
    return all_arrangements(yard)[::{1: 1, 2: 2, 3: 5}[len(yard)]]


def all_patterns(count):
    return [list(pattern) for pattern in itertools.product(CHOICES, repeat=count)]


def patterns_of(yard):
    return all_patterns(len(yard)) if len(yard) < 2 else random_patterns(3, len(yard), 14)


class RefusalsTest(RefusalCase):
    def test_wrong_yards_are_refused_ahead_of_all_else(self):
        for value in no_yards():
            self.assert_refused(InvalidYard, value, is_pattern, value, None)
            self.assert_refused(InvalidYard, value, how_many_fit, value, None)
            for call in [fits, *FROM_START, *TO_GOAL, *BETWEEN, home_costs]:
                self.assert_refused(InvalidYard, value, call, value, None, None)
            self.assert_refused(InvalidYard, value, home_within, value, None, None, None)

    def test_wrong_patterns_are_refused(self):
        for value in no_patterns(2):
            self.assert_refused(InvalidPattern, value, how_many_fit, YARD, value)
            self.assert_refused(InvalidPattern, value, fits, YARD, value, "xx")
            for call in FROM_START:
                self.assert_refused(InvalidPattern, value, call, YARD, "aa", value)
            for call in TO_GOAL:
                self.assert_refused(InvalidPattern, value, call, YARD, value, "xx")
            for call in BETWEEN:
                self.assert_refused(InvalidPattern, value, call, YARD, value, ["x", "y"])
                self.assert_refused(InvalidPattern, value, call, YARD, ["a", "b"], value)

    def test_wrong_arrangements_are_refused(self):
        for value in no_arrangements(2):
            self.assert_refused(InvalidArrangement, value, fits, YARD, ["a", "b"], value)
            for call in FROM_START:
                self.assert_refused(InvalidArrangement, value, call, YARD, value, ["x", "y"])
            for call in TO_GOAL:
                self.assert_refused(InvalidArrangement, value, call, YARD, ["a", "b"], value)
            self.assert_refused(InvalidArrangement, value, home_costs, YARD, value, "xx")
            self.assert_refused(InvalidArrangement, value, home_costs, YARD, "aa", value)
            self.assert_refused(InvalidArrangement, value, home_within, YARD, value, "xx", -1)
            self.assert_refused(InvalidArrangement, value, home_within, YARD, "aa", value, -1)

    def test_wrong_costs_are_refused_at_last(self):
        for value in [None, True, False, -1, -10 ** 79, "0", "", [], [0], (1,), {0: 0}, YARD]:
            self.assert_refused(InvalidCount, value, home_within, YARD, "aa", "ab", value)
            self.assert_refused(InvalidCount, value, home_within, YARD, "aa", "aa", value)

    def test_arguments_by_their_names(self):
        self.assertIs(is_pattern(value=["a", "b"], yard=YARD), True)
        self.assertIs(fits(arrangement="cc", pattern=["c", "bc"], yard=YARD), True)
        self.assertEqual(how_many_fit(pattern=["c", "bc"], yard=YARD), 2)
        for call in FROM_START:
            self.assertEqual(call(pattern=["c", "bc"], start="ab", yard=YARD), call(YARD, "ab", ["c", "bc"]))
        for call in TO_GOAL:
            self.assertEqual(call(goal="ab", pattern=["c", "bc"], yard=YARD), call(YARD, ["c", "bc"], "ab"))
        for call in BETWEEN:
            self.assertEqual(call(goals=["a", "b"], starts=["c", "bc"], yard=YARD), call(YARD, ["c", "bc"], ["a", "b"]))
        self.assertEqual(home_costs(goal="ca", start="aa", yard=YARD), [0, 7, 10])
        self.assertEqual(home_within(cost=9, goal="ca", start="aa", yard=YARD), 1)


class PatternsTest(unittest.TestCase):
    def test_values_near_patterns(self):
        for count in (1, 2, 3):
            yard = Yard.even(count, 1)
            for value in no_patterns(count):
                with self.subTest(count=count, value=value):
                    self.assertIs(is_pattern(yard, value), False)
            for pattern in all_patterns(count):
                self.assertIs(is_pattern(yard, pattern), True)
                self.assertIs(is_pattern(yard, tuple(pattern)), True)

    def test_sixty_crates(self):
        yard = Yard.even(60, 1)
        for places in CHOICES:
            self.assertIs(is_pattern(yard, [places] * 60), True)
            self.assertIs(is_pattern(yard, [places] * 59), False)
            self.assertIs(is_pattern(yard, [places] * 61), False)
            self.assertEqual(how_many_fit(yard, [places] * 60), len(places) ** 60)
        self.assertIs(fits(yard, ["ab"] * 60, "ab" * 30), True)
        self.assertIs(fits(yard, ["ab"] * 60, "ab" * 29 + "ac"), False)

    def test_what_fits(self):
        for count in (1, 2):
            yard = Yard.even(count, 1)
            for pattern in all_patterns(count):
                right = fitting(pattern)
                self.assertEqual(how_many_fit(yard, pattern), len(right))
                for arrangement in all_arrangements(yard):
                    self.assertIs(fits(yard, pattern, arrangement), arrangement in right)
                    self.assertIs(fits(yard, tuple(pattern), arrangement), arrangement in right)


class NearestTest(unittest.TestCase):
    def assert_nearest(self, costs, found, cost, many):
        """Ask for what is told of the least of some costs, which stand with their arrangements, or with None."""
        best = min([pair for pair in costs if pair[0] is not None], default=None)
        self.assertEqual(found, best)
        self.assertEqual(cost, None if best is None else best[0])
        if many is not None:
            self.assertEqual(many, 0 if best is None else [cost for cost, _ in costs].count(best[0]))

    def test_small_yards(self):
        for yard in searched_yards(3):
            search = PlainSearch(yard)
            for pattern in patterns_of(yard):
                for here in starts_of(yard):
                    with self.subTest(yard=str(yard), pattern=pattern, here=here):
                        ahead = [(search.cost(here, there), there) for there in fitting(pattern)]
                        self.assert_nearest(
                            ahead, nearest(yard, here, pattern), cost_to(yard, here, pattern),
                            how_many_nearest(yard, here, pattern),
                        )
                        back = [(search.cost(there, here), there) for there in fitting(pattern)]
                        self.assert_nearest(
                            back, nearest_start(yard, pattern, here), cost_from(yard, pattern, here), None,
                        )

    def test_four_crates(self):
        for seed in range(4):
            yard = random_yard(seed, 4, [1, 1, 2, None] if seed % 2 else [1, 1, 2])
            search = PlainSearch(yard)
            for pattern in random_patterns(seed, 4, 12):
                for here in all_arrangements(yard)[seed::9]:
                    costs = [(search.cost(here, there), there) for there in fitting(pattern)]
                    self.assert_nearest(
                        costs, nearest(yard, here, pattern), cost_to(yard, here, pattern),
                        how_many_nearest(yard, here, pattern),
                    )

    def test_each_arrangement_is_counted_once(self):
        # Both lines to b are alike in cost, and lead from towers from which the rest has the same nearest ones.
        yard = Yard([[2, 1, 1, 1, 1, 1], [1] * 6])
        self.assertEqual(cost_to(yard, "ac", ["b", "abc"]), 2)
        self.assertEqual(how_many_nearest(yard, "ac", ["b", "abc"]), 1)
        yard = Yard([[3, 1, 1, 1, 1, 1], [1] * 6, [1] * 6])
        search = PlainSearch(yard)
        for start in all_arrangements(yard):
            for pattern in (["b", "abc", "abc"], ["b", "bc", "abc"], ["bc", "abc", "bc"]):
                costs = [search.cost(start, there) for there in fitting(pattern)]
                self.assertEqual(how_many_nearest(yard, start, pattern), costs.count(min(costs)))

    def test_what_fits_already_costs_nothing(self):
        for yard in (Yard.even(60, 7), Yard([[None] * 6] * 60)):
            for pattern in (list(START60), ["abc"] * 60, ["".join(sorted({place, "b"})) for place in START60]):
                self.assertEqual(cost_to(yard, START60, pattern), 0)
                self.assertEqual(nearest(yard, START60, pattern), (0, START60))
                self.assertEqual(how_many_nearest(yard, START60, pattern), 1)
                self.assertEqual(nearest_start(yard, pattern, START60), (0, START60))
                self.assertEqual(cost_from(yard, tuple(pattern), START60), 0)

    def test_where_no_row_leads(self):
        for count in (1, 2, 60):
            yard = Yard([[None, 1, None, 1, None, None]] + [[1] * 6] * (count - 1))
            start, pattern = "c" * count, ["ab"] * count
            self.assertIsNone(cost_to(yard, start, pattern))
            self.assertIsNone(nearest(yard, start, pattern))
            self.assertEqual(how_many_nearest(yard, start, pattern), 0)
            self.assertIsNone(cost_from(yard, ["bc"] * count, "a" * count))
            self.assertIsNone(nearest_start(yard, ["bc"] * count, "a" * count))

    def test_patterns_of_one_place_each(self):
        yard = long_yard(60)
        cost = least(yard, START60, GOAL60)
        self.assertEqual(cost_to(yard, START60, list(GOAL60)), cost)
        self.assertEqual(cost_from(yard, list(START60), GOAL60), cost)
        self.assertEqual(nearest(yard, START60, list(GOAL60)), (cost, GOAL60))
        self.assertEqual(nearest_start(yard, tuple(START60), GOAL60), (cost, START60))
        self.assertEqual(how_many_nearest(yard, START60, list(GOAL60)), 1)

    def test_sixty_crates(self):
        for yard in (long_yard(60), Yard.even(60, 10 ** 30 - 1)):
            for pattern in [["bc"] * 60, ["c"] + ["abc"] * 59, *random_patterns(8, 60, 6)]:
                cost, arrangement = nearest(yard, START60, pattern)
                self.assertIs(fits(yard, pattern, arrangement), True)
                self.assertEqual(cost, least(yard, START60, arrangement))
                self.assertEqual(cost, cost_to(yard, START60, pattern))
                self.assertGreaterEqual(how_many_nearest(yard, START60, pattern), 1)
                cost, arrangement = nearest_start(yard, pattern, GOAL60)
                self.assertIs(fits(yard, pattern, arrangement), True)
                self.assertEqual(cost, least(yard, arrangement, GOAL60))
                self.assertEqual(cost, cost_from(yard, pattern, GOAL60))

    def test_many_nearest_ones_of_sixty_crates(self):
        # Each crate has two places that are alike for it, and the largest one has to leave the tower.
        yard = Yard([[1] * 6] * 60)
        self.assertEqual(how_many_nearest(yard, "a" * 60, ["bc"] + ["abc"] * 59), 2)
        self.assertEqual(nearest(yard, "a" * 60, ["bc"] + ["abc"] * 59), (2 ** 59, "b" + "c" * 59))
        self.assertEqual(nearest_start(yard, ["bc"] + ["abc"] * 59, "a" * 60), (2 ** 59, "b" + "c" * 59))


class BetweenTest(unittest.TestCase):
    def test_small_yards(self):
        for yard in searched_yards(3):
            search = PlainSearch(yard)
            patterns = random_patterns(5, len(yard), 10)
            for starts, goals in [*zip(patterns, patterns[1:]), *zip(patterns[:3], patterns[:3])]:
                with self.subTest(yard=str(yard), starts=starts, goals=goals):
                    costs = [search.cost(start, goal) for start in fitting(starts) for goal in fitting(goals)]
                    cost = min([cost for cost in costs if cost is not None], default=None)
                    self.assertEqual(cost_between(yard, starts, goals), cost)
                    pair = pair_between(yard, starts, goals)
                    if cost is None:
                        self.assertIsNone(pair)
                    else:
                        self.assertIs(type(pair), tuple)
                        start, goal = pair
                        self.assertEqual(search.cost(start, goal), cost)
                        self.assertTrue(start in fitting(starts) and goal in fitting(goals))

    def test_the_same_pattern_twice(self):
        for count in (1, 2, 60):
            for pattern in (["bc"] * count, ["abc"] * count, ["c"] * count):
                yard = Yard([[None] * 6] * count)
                self.assertEqual(cost_between(yard, pattern, pattern), 0)
                start, goal = pair_between(yard, pattern, tuple(pattern))
                self.assertEqual(start, goal)
                self.assertIs(fits(yard, pattern, start), True)

    def test_sixty_crates(self):
        patterns = random_patterns(9, 60, 8)
        for yard in (long_yard(60), Yard([NEXT_DOOR] * 60)):
            for starts, goals in zip(patterns, patterns[1:]):
                start, goal = pair_between(yard, starts, goals)
                self.assertEqual(cost_between(yard, starts, goals), least(yard, start, goal))
                self.assertTrue(fits(yard, starts, start) and fits(yard, goals, goal))
                self.assertEqual(cost_to(yard, start, goals), cost_between(yard, starts, goals))
                self.assertEqual(cost_from(yard, starts, goal), cost_between(yard, starts, goals))

    def test_where_no_row_leads(self):
        yard = Yard([[None, 1, None, 1, None, None]] + [[1] * 6] * 59)
        self.assertIsNone(cost_between(yard, ["bc"] * 60, ["a"] * 60))
        self.assertIsNone(pair_between(yard, ["bc"] * 60, ["a"] * 60))

    def test_equal_arguments_give_the_same_pair(self):
        yard = Yard.even(6, 1)
        for starts, goals in [(["ab"] * 6, ["c"] * 6), (["b"] * 6, ["ac"] * 6), (["a", "bc"] * 3, ["bc", "a"] * 3)]:
            pairs = {
                pair_between(Yard.even(6, 1), kind(starts), other(goals))
                for kind in (list, tuple) for other in (list, tuple)
            }
            self.assertEqual(pairs, {pair_between(yard, starts, goals)})


class HomeTest(unittest.TestCase):
    def test_small_yards(self):
        for yard in searched_yards(3):
            search = PlainSearch(yard)
            every = all_arrangements(yard)
            for start in starts_of(yard):
                for goal in every[::{1: 1, 2: 1, 3: 4}[len(yard)]]:
                    with self.subTest(yard=str(yard), start=start, goal=goal):
                        reached = {there: search.cost(start, there) for there in every}
                        known = [(there, cost) for there, cost in reached.items() if cost is not None]
                        costs = [
                            min([cost for there, cost in known if there[:home] == goal[:home]], default=None)
                            for home in range(len(yard) + 1)
                        ]
                        self.assertEqual(home_costs(yard, start, goal), costs)

    def test_home_within_a_cost(self):
        for yard in searched_yards(3):
            every = all_arrangements(yard)
            for start, goal in zip(every[::3], every[2::-1] + every[::-2]):
                costs = home_costs(yard, start, goal)
                known = [cost for cost in costs if cost is not None]
                for cost in {0, 1, 10 ** 80, *known, *[known_cost + 1 for known_cost in known],
                             *[known_cost - 1 for known_cost in known if known_cost]}:
                    right = max(home for home in range(len(costs)) if costs[home] is not None and costs[home] <= cost)
                    self.assertEqual(home_within(yard, start, goal, cost), right)

    def test_costs_never_fall_and_end_with_the_least_cost(self):
        for yard in (long_yard(60), Yard.even(60, 3), Yard([NEXT_DOOR] * 60)):
            costs = home_costs(yard, START60, GOAL60)
            self.assertEqual(len(costs), 61)
            self.assertEqual(costs, sorted(costs))
            self.assertEqual(costs[-1], least(yard, START60, GOAL60))
            for home in (0, 1, 17, 59):
                pattern = list(GOAL60[:home]) + ["abc"] * (60 - home)
                self.assertEqual(costs[home], cost_to(yard, START60, pattern))
                self.assertEqual(home_within(yard, START60, GOAL60, costs[home]), max(
                    count for count, cost in enumerate(costs) if cost == costs[home]
                ))

    def test_the_same_arrangement_is_home(self):
        for yard in (Yard.even(60, 3), Yard([[None] * 6] * 60)):
            self.assertEqual(home_costs(yard, START60, START60), [0] * 61)
            self.assertEqual(home_within(yard, START60, START60, 0), 60)

    def test_where_there_is_none_there_is_none_for_more(self):
        rows = [[1] * 6] * 30 + [[None] * 6] + [[1] * 6] * 29
        start, goal = "a" * 60, "a" * 10 + "b" * 50
        costs = home_costs(Yard(rows), start, goal)
        self.assertEqual(costs[:11], [0] * 11)
        self.assertIsNone(costs[11])
        self.assertEqual(costs[11:], [None] * 50)
        self.assertEqual(home_within(Yard(rows), start, goal, 10 ** 80), 10)
        costs = home_costs(Yard(rows), "a" * 60, "a" * 30 + "b" + "a" * 29)
        self.assertEqual(costs, [0] * 31 + [None] * 30)


class KindsTest(unittest.TestCase):
    def test_returned_lists_can_be_changed(self):
        costs = home_costs(YARD, "aa", "ca")
        costs[0] = "x"
        self.assertEqual(home_costs(YARD, "aa", "ca"), [0, 7, 10])

    def test_patterns_stay_as_they_are_and_can_be_changed(self):
        yard = Yard.even(3, 1)
        starts, goals = ["ab", "c", "abc"], ["c", "ab", "bc"]
        for call in BETWEEN:
            told = call(yard, starts, goals)
            self.assertEqual((starts, goals), (["ab", "c", "abc"], ["c", "ab", "bc"]))
            starts[0] = goals[0] = "b"
            call(yard, starts, goals)
            starts, goals = ["ab", "c", "abc"], ["c", "ab", "bc"]
            self.assertEqual(call(yard, starts, goals), told)
        for call in FROM_START:
            told = call(yard, "aaa", goals)
            self.assertEqual(goals, ["c", "ab", "bc"])
            self.assertEqual(call(yard, "aaa", tuple(goals)), told)

    def test_the_examples_of_the_document(self):
        self.assertEqual(
            [how_many_fit(YARD, ["bc", "abc"]), cost_to(YARD, "aa", ["bc", "abc"]), nearest(YARD, "aa", ["bc", "abc"]),
             how_many_nearest(YARD, "aa", ["bc", "abc"])],
            [6, 7, (7, "bc"), 2],
        )
        self.assertEqual(
            [cost_from(YARD, ["a", "abc"], "cb"), cost_between(YARD, ["ab", "ab"], ["b", "c"]),
             pair_between(YARD, ["b", "b"], ["b", "c"])],
            [6, 2, ("bb", "bc")],
        )
        self.assertEqual(
            [home_costs(YARD, "aa", "ca"), home_within(YARD, "aa", "ca", 7), home_within(YARD, "aa", "ca", 10)],
            [[0, 7, 10], 1, 2],
        )


if __name__ == "__main__":
    unittest.main()
