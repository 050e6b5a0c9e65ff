"""Tests of totals over all arrangements of few crates: promises 5 to 10, and 121 to 123."""

import unittest

from cratetowers.errors import InvalidArrangement, InvalidPlace, InvalidYard
from cratetowers.totals import can_come, farthest, farthest_from_tower, sum_to_tower, twice_moved
from cratetowers.yards import Yard
from tests.helpers import (
    PlainSearch, RefusalCase, all_arrangements, no_arrangements, no_yards, odd_values, random_yard, searched_yards,
)

FROM_START = [can_come, farthest]
TO_TOWER = [farthest_from_tower, sum_to_tower]


def small_yards():
    yield from searched_yards(4)
    for count in (1, 2, 3):
        for seed in range(4):
            yield random_yard(seed, count, [1, 2, 3, 4, 5, 6])
            yield random_yard(seed, count, [1, 3, None])


def always_twice(search, start, goal):
    """Tell by a search whether a row leads there and crate 0 moves twice in each cheapest one."""
    if start[0] == goal[0] or search.cost(start, goal) is None:
        return False
    # With each arrangement, the numbers of moves of crate 0 with which a cheapest row comes there.
    found = {(start, 0)}
    left = [(start, 0)]
    while left:
        here, moves = left.pop()
        for there in search.next_stops(here, goal) if here != goal else []:
            step = (there, moves + (here[0] != there[0]))
            if step not in found:
                found.add(step)
                left.append(step)
    return {moves for here, moves in found if here == goal} == {2}


class RefusalsTest(RefusalCase):
    def test_wrong_yards_are_refused_ahead_of_all_else(self):
        for value in no_yards():
            for call in [*FROM_START, *TO_TOWER]:
                self.assert_refused(InvalidYard, value, call, value, None)
            self.assert_refused(InvalidYard, value, twice_moved, value)

    def test_wrong_arrangements_and_places_are_refused_ahead_of_too_many(self):
        for count in (2, 8):
            yard = Yard.even(count, 1)
            for value in no_arrangements(count):
                for call in FROM_START:
                    self.assert_refused(InvalidArrangement, value, call, yard, value)
            for value in [*odd_values(), "abc", "ab", ["a"], 0]:
                for call in TO_TOWER:
                    self.assert_refused(InvalidPlace, value, call, yard, value)

    def test_too_many_crates(self):
        for count in (8, 9, 60):
            for yard in (Yard.even(count, 1), Yard([[None] * 6] * count)):
                for call in FROM_START:
                    self.assert_too_many(count, call, yard, "c" * count)
                for call in TO_TOWER:
                    self.assert_too_many(count, call, yard, "c")
        for count in (6, 7, 60):
            for yard in (Yard.even(count, 1), Yard([[None] * 6] * count)):
                self.assert_too_many(count, twice_moved, yard)

    def test_arguments_by_their_names(self):
        yard = Yard([[1, None, None, 1, None, None], [1] * 6])
        for call in FROM_START:
            self.assertEqual(call(start="ab", yard=yard), call(yard, "ab"))
        for call in TO_TOWER:
            self.assertEqual(call(place="b", yard=yard), call(yard, "b"))
        self.assertEqual(twice_moved(yard=yard), twice_moved(yard))


class SearchedTest(unittest.TestCase):
    def test_from_an_arrangement(self):
        for yard in small_yards():
            search = PlainSearch(yard)
            every = all_arrangements(yard)
            for start in every[::{1: 1, 2: 1, 3: 5, 4: 19}[len(yard)]]:
                with self.subTest(yard=str(yard), start=start):
                    costs = [(search.cost(start, there), there) for there in every]
                    known = [(-cost, there) for cost, there in costs if cost is not None]
                    self.assertEqual(can_come(yard, start), len(known))
                    self.assertEqual(farthest(yard, start), (-min(known)[0], min(known)[1]))

    def test_to_a_tower(self):
        for yard in small_yards():
            search = PlainSearch(yard)
            every = all_arrangements(yard)
            for place in "abc":
                with self.subTest(yard=str(yard), place=place):
                    costs = [(search.cost(here, place * len(yard)), here) for here in every]
                    known = [(-cost, here) for cost, here in costs if cost is not None]
                    self.assertEqual(farthest_from_tower(yard, place), (-min(known)[0], min(known)[1]))
                    self.assertEqual(sum_to_tower(yard, place), (-sum(cost for cost, _ in known), len(known)))

    def test_pairs_with_two_moves_of_the_largest_crate(self):
        told = set()
        for yard in small_yards():
            if len(yard) < 4:
                with self.subTest(yard=str(yard)):
                    search = PlainSearch(yard)
                    every = all_arrangements(yard)
                    right = sum(always_twice(search, start, goal) for start in every for goal in every)
                    self.assertEqual(twice_moved(yard), right)
                    told.add(right)
        self.assertGreater(len(told), 12)

    def test_pairs_of_four_crates(self):
        for yard in (Yard.even(4, 1), random_yard(2, 4, [1, 2, 3, None])):
            search = PlainSearch(yard)
            every = all_arrangements(yard)
            right = sum(always_twice(search, start, goal) for start in every for goal in every)
            self.assertEqual(twice_moved(yard), right)


class LargestYardsTest(unittest.TestCase):
    def test_seven_crates(self):
        yard = Yard.even(7, 10 ** 30 - 1)
        self.assertEqual(farthest(yard, "a" * 7), (127 * (10 ** 30 - 1), "b" + "a" * 6))
        self.assertEqual(farthest_from_tower(yard, "c"), (127 * (10 ** 30 - 1), "a" * 7))
        self.assertEqual(can_come(yard, "abcabca"), 3 ** 7)
        # Of each place of a crate there are as many arrangements, and 2 of 3 places ask for its power of 2.
        self.assertEqual(sum_to_tower(Yard.even(7, 1), "b"), (2 * 3 ** 6 * 127, 3 ** 7))

    def test_all_ways_barred(self):
        for count in (1, 7):
            yard = Yard([[None] * 6] * count)
            start = ("cab" * count)[:count]
            self.assertEqual([can_come(yard, start), farthest(yard, start)], [1, (0, start)])
            self.assertEqual([farthest_from_tower(yard, "b"), sum_to_tower(yard, "b")], [(0, "b" * count), (0, 1)])
        self.assertEqual(twice_moved(Yard([[None] * 6] * 5)), 0)

    def test_pairs_of_five_crates(self):
        yard = Yard([[1, None, 1, 1, None, 1]] * 5)
        # From a to c and back there is no straight way.
        self.assertEqual(twice_moved(yard), 2 * 81 * 81)
        self.assertEqual(twice_moved(Yard([[1, None, None, 1, None, None]] + [[1] * 6] * 4)), 81 * 81)
        self.assertEqual(twice_moved(Yard([[1, 9, 1, 9, 1, 1]])), 0)
        self.assertEqual(twice_moved(Yard([[3, 1, 1, 1, 1, 1]])), 1)

    def test_the_examples_of_the_document(self):
        even = Yard.even(3, 1)
        self.assertEqual(
            [farthest(even, "aaa"), farthest_from_tower(even, "c"), sum_to_tower(even, "c"), can_come(even, "abc"),
             twice_moved(even)],
            [(7, "baa"), (7, "aaa"), (126, 27), 27, 18],
        )
        yard = Yard([[1, None, None, 1, None, None], [1, 1, 1, 1, 1, 1]])
        self.assertEqual(
            [farthest(yard, "ab"), sum_to_tower(yard, "a"), can_come(yard, "cb")],
            [(5, "cb"), (2, 3), 3],
        )


if __name__ == "__main__":
    unittest.main()
