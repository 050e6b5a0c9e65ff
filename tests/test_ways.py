"""Tests of cheapest rows, move by move: promises 5 to 10, and 71 to 73."""

import unittest

from cratetowers.arrangements import arrangement_at, number_of
from cratetowers.costs import least
from cratetowers.errors import InvalidArrangement, InvalidCount, InvalidCrate, InvalidWay, InvalidYard
from cratetowers.rows import all_behind, row_cost, row_crates
from cratetowers.ways import Way
from cratetowers.yards import WAYS, Yard
from tests.helpers import (
    PlainSearch, RefusalCase, all_arrangements, long_yard, no_arrangements, no_yards, odd_values, plain_sum,
    random_yard, searched_yards,
)

YARD = Yard([[5, 2, 5, 2, None, 2], [1, 1, 1, 1, 1, 1]])
NEXT_DOOR = [1, None, 1, 1, None, 1]
START60 = "abcacbbacabccba" * 4
GOAL60 = "cabbacacbcbaabc" * 4
NO_NUMBERS = ["0", "1", [0], (0,), {0: 0}, -2, 10 ** 80, 3 ** 61, -(3 ** 60)]


def pairs_of(yard, step):
    every = all_arrangements(yard)
    return [(start, goal) for start in every for goal in every][::step]


def plain_row(search, start, goal):
    """The row that goes straight where this is not dearer, by the least costs of a search through all arrangements."""
    if start == goal:
        return []
    crate = min(k for k in range(len(start)) if start[k] != goal[k])
    (over,) = set("abc") - {start[crate], goal[crate]}
    for places in (start[crate] + goal[crate], start[crate] + over + goal[crate]):
        stops = stops_of(start, goal, crate, places)
        ends = list(zip(stops, stops[1:]))
        costs = [search.cost(*pair) for pair in ends[::2]] + [move_price(search, *pair) for pair in ends[1::2]]
        if plain_sum(costs) == search.cost(start, goal):
            break
    row = plain_row(search, *ends[0])
    for place, pair in zip(places[1:], ends[2::2]):
        row += [(crate, place), *plain_row(search, *pair)]
    return row


def stops_of(start, goal, crate, places):
    """The arrangements ahead of and behind each move of a crate from place to place, with the start and the goal."""
    stops = [start]
    for first, last in zip(places, places[1:]):
        (aside,) = set("abc") - {first, last}
        stops += [start[:crate] + place + aside * (len(start) - 1 - crate) for place in (first, last)]
    return [*stops, goal]


def move_price(search, here, there):
    """The price of the one move from an arrangement to another one, or None."""
    return {behind: price for price, _, behind in search.steps[here]}.get(there)


def great_ways():
    """Rows of yards of many crates, most of them with far more moves than could be listed."""
    yield Way(Yard.even(60, 7), "a" * 60, "c" * 60)
    yield Way(Yard([NEXT_DOOR] * 60), "a" * 60, "c" * 60)
    yield Way(Yard([[1, None, None, 1, 1, None]] * 60), START60, GOAL60)
    yield Way(long_yard(60), START60, GOAL60)
    yield Way(random_yard(4, 60, [1, 1, 2, 5, 10 ** 29, 10 ** 30 - 1]), GOAL60, START60)
    yield Way(random_yard(2, 31, [1, 2, 3]), START60[:31], "b" * 31)


def places_of_interest(count):
    """Numbers from 0 to less than a count, at both ends, in the middle and in between."""
    told = {0, 1, 2, 3, 12, 999, 1000, 1001, count - 1, count - 2, count // 2, count // 2 - 1, count // 3}
    told |= {count * k // 17 + k * k for k in range(17)} | {2 ** k - 1 for k in range(0, 95, 7)}
    return sorted(number for number in told if 0 <= number < count)


class ChecksTest(RefusalCase):
    def test_wrong_yards_are_refused_ahead_of_all_else(self):
        for yard in no_yards():
            for start, goal in (("aa", "ab"), ("no", "no"), ([], None)):
                with self.subTest(yard=yard):
                    self.assert_refused(InvalidYard, yard, Way, yard, start, goal)
                    self.assert_refused(InvalidYard, yard, Way, yard=yard, start=start, goal=goal)

    def test_wrong_arrangements_are_refused(self):
        for value in no_arrangements(2):
            with self.subTest(value=value):
                for other in ("aa", "no", None, []):
                    self.assert_refused(InvalidArrangement, value, Way, YARD, value, other)
                    self.assert_refused(InvalidArrangement, value, Way, Yard([[None] * 6] * 2), value, other)
                self.assert_refused(InvalidArrangement, value, Way, YARD, "aa", value)
                self.assert_refused(InvalidArrangement, value, Way, Yard([[None] * 6] * 2), "aa", value)

    def test_where_no_row_leads_there_is_no_way(self):
        for yard in searched_yards(3):
            search = PlainSearch(yard)
            for start, goal in pairs_of(yard, 3 * len(yard) - 1):
                start, goal = "".join(list(start)), "".join(list(goal))
                if search.cost(start, goal) is None:
                    self.assert_no_way(start, goal, Way, yard, start, goal)
        self.assert_no_way("b", "a", Way, Yard([[1, 1, None, None, None, None]]), "b", "a")
        great, goal = Yard([[None] * 6] + [[1] * 6] * 59), "b" + START60[1:]
        self.assert_no_way(START60, goal, Way, great, START60, goal)

    def test_arguments_by_their_names(self):
        way = Way(yard=YARD, start="ca", goal="ab")
        self.assertEqual(way.move(index=1), (1, "c"))
        self.assertEqual(way.behind(count=1), "ba")
        self.assertEqual(way.first(count=1), [(0, "b")])
        self.assertEqual(way.uses(crate=0, way="ba"), 1)

    def test_wrong_indices_and_counts_are_refused(self):
        for yard, start, goal in ((YARD, "ca", "ab"), (YARD, "ab", "ab"), (Yard.even(12, 1), "a" * 12, "c" * 12),
                                  (Yard([NEXT_DOOR] * 60), "a" * 60, "c" * 60)):
            way = Way(yard, start, goal)
            odd = [value for value in odd_values() if value != 0] + NO_NUMBERS
            for value in [*odd, way.moves + 1, way.moves + 2, 10 * way.moves + 1, -way.moves - 1, True, False]:
                with self.subTest(value=value):
                    for call in (way.move, way.behind, way.first):
                        self.assert_refused(InvalidCount, value, call, value)
                    self.assert_refused(InvalidCount, value, way.move, index=value)
                    self.assert_refused(InvalidCount, value, way.behind, count=value)
                    self.assert_refused(InvalidCount, value, way.first, count=value)
            end = way.moves
            self.assert_refused(InvalidCount, end, way.move, end)
            self.assertEqual(way.behind(end), goal)

    def test_wrong_crates_are_refused_ahead_of_ways(self):
        way = Way(YARD, "ca", "ab")
        for crate in [*odd_values(), 2, 3, 60, -1, -2, "0", [0], (0,)]:
            for name in ("ab", "no", None):
                with self.subTest(crate=crate, way=name):
                    self.assert_refused(InvalidCrate, crate, way.uses, crate, name)
        for name in [*odd_values(), "AB", "aa", "a", "abc", "ab ", "ad", 0, 1, ["ab"], ("a", "b")]:
            with self.subTest(way=name):
                self.assert_refused(InvalidWay, name, way.uses, 1, name)
                self.assert_refused(InvalidWay, name, way.uses, crate=0, way=name)


class SmallYardsTest(RefusalCase):
    def test_rows_move_by_move(self):
        seen = 0
        for yard in searched_yards(4):
            search = PlainSearch(yard)
            for start, goal in pairs_of(yard, {1: 1, 2: 2, 3: 16, 4: 149}[len(yard)]):
                if search.cost(start, goal) is not None:
                    with self.subTest(yard=str(yard), start=start, goal=goal):
                        self.assert_way(yard, start, goal, plain_row(search, start, goal), search.cost(start, goal))
                        seen += 1
        self.assertGreater(seen, 1000)

    def assert_way(self, yard, start, goal, row, cost):
        way = Way(yard, start, goal)
        self.assertEqual((way.start, way.goal, way.cost, way.moves), (start, goal, cost, len(row)))
        self.assertEqual(way.first(len(row)), row)
        self.assertEqual([way.move(index) for index in range(len(row))], row)
        passed = all_behind(yard, start, row)
        self.assertEqual([way.behind(count) for count in range(len(row) + 1)], passed)
        self.assertEqual(passed[-1], goal)
        self.assertEqual(row_cost(yard, start, row), cost)
        self.assertEqual(way.crate_moves(), row_crates(yard, start, row))
        gone = [(crate, here[crate] + place) for here, (crate, place) in zip(passed, row)]
        for crate in range(len(yard)):
            for name in WAYS:
                self.assertEqual(way.uses(crate, name), gone.count((crate, name)))
        for count in {0, 1, len(row) // 2, len(row) - 1} - {-1}:
            self.assertEqual(way.first(min(count, len(row))), row[:count])

    def test_the_same_arrangement(self):
        for yard in (Yard([[None] * 6] * 3), Yard.even(3, 5)):
            for arrangement in all_arrangements(yard):
                self.assert_way(yard, arrangement, arrangement, [], 0)

    def test_one_crate(self):
        self.assert_way(Yard([[2, 1, 9, 9, 9, 1]]), "a", "b", [(0, "b")], 2)
        self.assert_way(Yard([[3, 1, 9, 9, 9, 1]]), "a", "b", [(0, "c"), (0, "b")], 2)
        self.assert_way(Yard([[2, 1, 9, 9, 9, None]]), "a", "b", [(0, "b")], 2)
        self.assert_way(Yard([[None, 8, 9, 9, 9, 9]]), "a", "b", [(0, "c"), (0, "b")], 17)

    def test_alike_in_cost_the_row_goes_straight_from_tower_to_tower(self):
        # For crate 0 straight costs 1 + price + 1, and over the third place 1 + 1 + 1 + 1 + 1.
        for price, row in (
            (3, [(1, "c"), (0, "b"), (1, "b")]),
            (2, [(1, "c"), (0, "b"), (1, "b")]),
            (4, [(1, "b"), (0, "c"), (1, "a"), (0, "b"), (1, "b")]),
        ):
            yard = Yard([[price, 1, 1, 1, 1, 1], [1] * 6])
            self.assert_way(yard, "aa", "bb", row, min(2 + price, 5))
            # The same, one crate deeper: the rest of a larger crate goes like this as well.
            longer = Yard([[1] * 6, *yard.rows()])
            moves = [(crate + 1, place) for crate, place in row]
            self.assertEqual(Way(longer, "aaa", "cbb").first(len(row)), moves)

    def test_alike_in_cost_the_row_goes_straight_between_other_arrangements(self):
        # As the price for going straight grows by one, there is one at which both sums are alike.
        for start, goal in (("ab", "bc"), ("ac", "bc"), ("ab", "ba"), ("aac", "bca"), ("aab", "bbc")):
            rest = len(start) - 1
            seen = set()
            for price in range(1, 30):
                yard = Yard([[price, 2, 9, 9, 9, 2], *[[1, 2, 3, 2, 1, 1]] * rest])
                search = PlainSearch(yard)
                straight = self.cost_straight(search, start, goal, price)
                way = Way(yard, start, goal)
                often = 1 if straight == way.cost else 2
                self.assertEqual(way.crate_moves()[0], often)
                self.assertEqual(way.cost, search.cost(start, goal))
                seen.add((often, straight - way.cost))
            self.assertTrue({(1, 0), (2, 1)} <= seen)

    def cost_straight(self, search, start, goal, price):
        """What it costs if crate 0 goes from a straight to b."""
        rest = "c" * (len(start) - 1)
        return search.cost(start, "a" + rest) + price + search.cost("b" + rest, goal)

    def test_both_ways_over_the_third_place_at_each_level(self):
        yard = Yard([NEXT_DOOR] * 3)
        passed = ["aaa", "aab", "aac", "abc", "abb", "aba", "aca", "acb", "acc",
                  "bcc", "bcb", "bca", "bba", "bbb", "bbc", "bac", "bab", "baa",
                  "caa", "cab", "cac", "cbc", "cbb", "cba", "cca", "ccb", "ccc"]
        way = Way(yard, "aaa", "ccc")
        self.assertEqual([way.behind(count) for count in range(27)], passed)
        self.assertEqual(way.crate_moves(), [2, 6, 18])


class GreatYardsTest(RefusalCase):
    def test_moves_lead_from_arrangement_to_arrangement(self):
        for way in great_ways():
            self.assertEqual(way.behind(0), way.start)
            self.assertEqual(way.behind(way.moves), way.goal)
            for index in places_of_interest(way.moves):
                with self.subTest(moves=way.moves, index=index):
                    crate, place = way.move(index)
                    here = way.behind(index)
                    self.assertNotEqual(here[crate], place)
                    (aside,) = set("abc") - {here[crate], place}
                    self.assertEqual(here[crate + 1:], aside * (len(here) - 1 - crate))
                    self.assertEqual(way.behind(index + 1), here[:crate] + place + here[crate + 1:])

    def test_the_first_moves_are_the_moves_with_the_first_indices(self):
        for way in great_ways():
            for count in (0, 1, 2, 3, 500, 999, 1000):
                told = way.first(count)
                self.assertEqual(len(told), count)
                for index in {0, 1, 2, count // 3, count - 2, count - 1} & set(range(count)):
                    self.assertEqual(way.move(index), told[index])
            row = way.first(1000)
            self.assertEqual([way.move(index) for index in range(0, 1000, 7)], row[::7])

    def test_1000_moves_can_be_listed_and_not_1001(self):
        for way in great_ways():
            self.assertEqual(len(way.first(1000)), 1000)
            for count in (1001, 1002, 10 ** 6, way.moves):
                self.assert_refused(InvalidCount, count, way.first, count)
        way = Way(Yard.even(10, 1), "a" * 10, "c" * 10)
        self.assertEqual(way.moves, 1023)
        self.assertEqual(len(way.first(1000)), 1000)
        for count in (1001, 1023, 1024):
            self.assert_refused(InvalidCount, count, way.first, count)
        shorter = Way(Yard([NEXT_DOOR] * 6), "a" * 6, "c" * 6)
        self.assertEqual(len(shorter.first(728)), 728)
        for count in (729, 999, 1000, 1001):
            self.assert_refused(InvalidCount, count, shorter.first, count)

    def test_the_costs_are_the_least_costs(self):
        for yard, start, goal in (
            (Yard([NEXT_DOOR] * 60), START60, GOAL60), (long_yard(60), START60, GOAL60),
            (long_yard(60), GOAL60, "b" * 60), (random_yard(3, 60, [1, 1, 2, 10 ** 29]), "c" * 60, START60),
        ):
            way = Way(yard, start, goal)
            self.assertEqual(way.cost, least(yard, start, goal))
            uses = {(crate, name): way.uses(crate, name) for crate in range(60) for name in WAYS}
            paid = [often * yard.price(crate, name) for (crate, name), often in uses.items() if often]
            self.assertEqual(sum(paid), way.cost)
            self.assertEqual(sum(uses.values()), way.moves)
            self.assertEqual(way.crate_moves(), [sum(uses[crate, name] for name in WAYS) for crate in range(60)])

    def test_the_row_of_all_arrangements(self):
        # Where only neighbours are free, the row from tower to tower comes to all 3 ** 60 arrangements.
        yard = Yard([NEXT_DOOR] * 60)
        way = Way(yard, "a" * 60, "c" * 60)
        self.assertEqual((way.moves, way.cost), (3 ** 60 - 1, 3 ** 60 - 1))
        self.assertEqual(way.crate_moves(), [2 * 3 ** crate for crate in range(60)])
        for count in [*places_of_interest(3 ** 60), 3 ** 60 - 1]:
            self.assertEqual(way.behind(count), self.reflected(yard, count))

    def reflected(self, yard, number):
        """The arrangement with a number in the order in which each digit turns round behind an odd one."""
        told, turned = "", False
        for digit in arrangement_at(yard, number):
            turned_digit = "cba"["abc".index(digit)] if turned else digit
            told += turned_digit
            turned = turned != (digit == "b")
        return told

    def test_the_towers_of_one_price(self):
        for count in (1, 2, 9, 40, 59, 60):
            way = Way(Yard.even(count, 10 ** 30 - 1), "a" * count, "c" * count)
            self.assertEqual(way.moves, 2 ** count - 1)
            self.assertEqual(way.cost, (10 ** 30 - 1) * (2 ** count - 1))
            self.assertEqual(way.crate_moves(), [2 ** crate for crate in range(count)])
            for index in places_of_interest(way.moves):
                # The crate of a move is told by how often 2 divides the number of the move.
                number = index + 1
                self.assertEqual(way.move(index)[0], count - (number & -number).bit_length())
            self.assertEqual(way.move(way.moves // 2), (0, "c"))

    def test_a_row_that_moves_one_small_crate_of_sixty(self):
        yard = long_yard(60)
        way = Way(yard, START60, START60[:-1] + "c")
        self.assertLessEqual(way.moves, 2)
        self.assertEqual(way.crate_moves()[:59], [0] * 59)
        self.assertEqual(way.behind(way.moves), START60[:-1] + "c")
        still = Way(yard, START60, START60)
        self.assertEqual((still.cost, still.moves, still.first(0), still.behind(0)), (0, 0, [], START60))
        self.assertEqual(still.crate_moves(), [0] * 60)
        self.assert_refused(InvalidCount, 0, still.move, 0)
        self.assert_refused(InvalidCount, 1, still.behind, 1)
        self.assert_refused(InvalidCount, 1, still.first, 1)


class ObjectTest(RefusalCase):
    def test_equal_arguments_give_the_same_row(self):
        for yard in searched_yards(3):
            for start, goal in pairs_of(yard, 37):
                if least(yard, start, goal) is not None:
                    one, other = Way(yard, start, goal), Way(Yard(tuple(map(tuple, yard.rows()))), start, goal)
                    self.assertEqual(one.first(one.moves), other.first(other.moves))

    def test_returned_lists_can_be_changed(self):
        way = Way(YARD, "ca", "ab")
        for call in (way.crate_moves, lambda: way.first(4)):
            told = call()
            self.assertIs(type(told), list)
            kept = list(told)
            told.clear()
            self.assertEqual(call(), kept)
        self.assertEqual([way.uses(0, name) for name in WAYS], [0, 0, 1, 0, 0, 1])
        self.assertEqual((way.cost, way.moves), (9, 4))

    def test_a_way_does_not_hang_on_the_rows_of_its_yard(self):
        rows = [[5, 2, 5, 2, None, 2], [1, 1, 1, 1, 1, 1]]
        yard = Yard(rows)
        way = Way(yard, "ca", "ab")
        rows[0][0] = 1
        yard.rows()[1][1] = 9
        self.assertEqual((way.cost, way.first(4)), (9, [(0, "b"), (1, "c"), (0, "a"), (1, "b")]))
        self.assertEqual(yard.price(0, "ab"), 5)

    def test_ways_are_no_yards_and_no_arrangements(self):
        way = Way(YARD, "ca", "ab")
        self.assert_refused(InvalidYard, way, Way, way, "ca", "ab")
        self.assert_refused(InvalidArrangement, way, Way, YARD, way, "ab")
        self.assert_refused(InvalidArrangement, way, number_of, YARD, way)
        self.assertNotEqual(way, YARD)
        self.assertNotEqual(YARD, way)

    def test_the_kinds_of_what_is_told(self):
        way = Way(YARD, "ca", "ab")
        self.assertEqual([type(value) for value in (way.start, way.goal, way.cost, way.moves)], [str, str, int, int])
        for move in [way.move(0), *way.first(4)]:
            self.assertEqual((type(move), [type(part) for part in move]), (tuple, [int, str]))
        self.assertIs(type(way.behind(2)), str)
        for name in ("cost", "moves"):
            self.assertIsInstance(vars(Way)[name], property)


class DocumentTest(RefusalCase):
    def test_the_examples_of_the_document(self):
        yard = Yard([[5, 2, 5, 2, None, 2], [1, 1, 1, 1, 1, 1]])
        way = Way(yard, "ca", "ab")
        self.assertEqual(
            [way.cost, way.moves, way.first(4), [way.behind(count) for count in range(5)], way.crate_moves(),
             way.uses(0, "ba")],
            [9, 4, [(0, "b"), (1, "c"), (0, "a"), (1, "b")], ["ca", "ba", "bc", "ac", "ab"], [2, 2], 1],
        )
        great = Way(Yard.even(40, 7), "a" * 40, "c" * 40)
        self.assertEqual(
            [great.moves == 2 ** 40 - 1, great.cost == 7 * great.moves, great.move(0), great.move(2 ** 39 - 1),
             great.behind(2 ** 39)[:3]],
            [True, True, (39, "b"), (0, "c"), "cbb"],
        )
        self.assert_no_way("b", "a", Way, Yard([[1, 1, None, None, None, None]]), "b", "a")


if __name__ == "__main__":
    unittest.main()
