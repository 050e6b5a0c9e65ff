"""Tests of the least costs from tower to tower and of papers: promises 6 to 10, and 51 to 53."""

import copy
import unittest

from cratetowers import levels
from cratetowers.errors import InvalidPaper, InvalidWay, InvalidYard
from cratetowers.levels import is_paper, straight_ways, tables, told_cost, tower_cost
from cratetowers.yards import WAYS, Yard
from tests.helpers import (
    ENDLESS, PlainSearch, RefusalCase, changed_papers, long_yard, no_costs, no_yards, odd_values, plain_lines,
    random_yard, searched_yards,
)

YARD = Yard([[5, 2, 5, 2, None, 2], [1, 1, 1, 1, 1, 1]])
NEXT_DOOR = [1, None, 1, 1, None, 1]
ROUND = [1, None, None, 1, 1, None]
NO_WAYS = ["AB", "aa", "a", "abc", "ab ", "ad", "cc", "", 0, 1, ["ab"], ("a", "b"), ("ab",)]


def plain_tables(yard):
    """The tables by a search through all arrangements of the so many smallest crates."""
    told = [{way: 0 for way in WAYS}]
    for count in range(1, len(yard) + 1):
        search = PlainSearch(yard.smallest(count))
        told.append({way: search.cost(way[0] * count, way[1] * count) for way in WAYS})
    return told


def is_within_lines(yard, value):
    """Tell of lists of dicts of the right form whether they are a paper, by the two lines of the document."""
    for count in range(len(yard)):
        for way in WAYS:
            number = ENDLESS if value[count + 1][way] is None else value[count + 1][way]
            if number > min(plain_lines(yard, count, way, value[count])):
                return False
    return all(number == 0 for number in value[0].values())


def no_papers(yard):
    """Values that are no papers because of their form."""
    right = tables(yard)
    values = [*odd_values(), right[:-1], right + [right[-1]], right[1:], tuple(right[:-1]), [right], (right,)]
    values += [right[0], {k: level for k, level in enumerate(right)}, [list(level.items()) for level in right]]
    values += [[list(level.values()) for level in right], [list(level) for level in right]]
    values += [str(right), [None] * len(right)]
    for at in range(len(right)):
        for level in (None, [], {}, (), 0, "ab", WAYS, list(right[at].items()), {**right[at], "aa": 0}):
            values.append(right[:at] + [level] + right[at + 1:])
        values.append(right[:at] + [{**right[at], 0: 0}] + right[at + 1:])
        for way in WAYS:
            fewer = {other: cost for other, cost in right[at].items() if other != way}
            for level in (fewer, {**fewer, way.upper(): 0}, {**fewer, 1: 0}):
                values.append(right[:at] + [level] + right[at + 1:])
            for wrong in no_costs():
                values.append(right[:at] + [{**right[at], way: wrong}] + right[at + 1:])
    return values


class ChecksTest(RefusalCase):
    def test_wrong_yards_are_refused_ahead_of_all_else(self):
        calls = {
            "tables": [()], "tower_cost": [("no",), ("ab",)], "is_paper": [("no",), (tables(YARD),)],
            "told_cost": [("no", "no"), (tables(YARD), "ab")], "straight_ways": [()],
        }
        for name, cases in calls.items():
            for others in cases:
                for yard in no_yards():
                    with self.subTest(name=name, yard=yard):
                        self.assert_refused(InvalidYard, yard, getattr(levels, name), yard, *others)

    def test_wrong_ways_are_refused(self):
        for way in [*odd_values(), *NO_WAYS]:
            with self.subTest(way=way):
                self.assert_refused(InvalidWay, way, tower_cost, YARD, way)
                self.assert_refused(InvalidWay, way, tower_cost, YARD, way=way)
                self.assert_refused(InvalidWay, way, told_cost, YARD, tables(YARD), way)

    def test_wrong_papers_are_refused_ahead_of_ways(self):
        for paper in no_papers(YARD):
            for way in ("ab", "no", None):
                with self.subTest(paper=paper, way=way):
                    self.assert_refused(InvalidPaper, paper, told_cost, YARD, paper, way)
        greater = changed(tables(YARD), 2, "ca", 11)
        self.assert_refused(InvalidPaper, greater, told_cost, YARD, greater, "no")

    def test_arguments_by_their_names(self):
        self.assertEqual(tables(yard=YARD), tables(YARD))
        self.assertEqual(tower_cost(yard=YARD, way="ca"), 10)
        self.assertIs(is_paper(yard=YARD, value=tables(YARD)), True)
        self.assertEqual(told_cost(yard=YARD, paper=tables(YARD), way="ca"), 10)
        self.assertEqual(straight_ways(yard=YARD), straight_ways(YARD))


def changed(value, at, way, number):
    """A paper with another number at one place."""
    told = copy.deepcopy(value)
    told[at][way] = number
    return told


class TablesTest(RefusalCase):
    def test_least_costs_of_small_yards(self):
        barred = 0
        for yard in searched_yards(4):
            with self.subTest(yard=str(yard)):
                plain = plain_tables(yard)
                self.assertEqual(tables(yard), plain)
                for way in WAYS:
                    self.assertEqual(tower_cost(yard, way), plain[-1][way])
                    barred += plain[-1][way] is None
        self.assertGreater(barred, 20)

    def test_each_number_is_the_lesser_one_of_the_two_lines(self):
        for yard in [*searched_yards(4), long_yard(60), random_yard(2, 60, [1, 2, 3, 9, None])]:
            told = tables(yard)
            self.assertEqual(len(told), len(yard) + 1)
            for count in range(len(yard)):
                for way in WAYS:
                    least = min(plain_lines(yard, count, way, told[count]))
                    self.assertEqual(told[count + 1][way], None if least == ENDLESS else least)

    def test_known_numbers_of_sixty_crates(self):
        even = tables(Yard.even(60, 10 ** 30 - 1))
        next_door = tables(Yard([NEXT_DOOR] * 60))
        around = tables(Yard([ROUND] * 60))
        short, long = 0, 0
        for count in range(61):
            self.assertEqual(even[count], {way: (10 ** 30 - 1) * (2 ** count - 1) for way in WAYS})
            half = (3 ** count - 1) // 2
            self.assertEqual(next_door[count], {"ab": half, "ac": 2 * half, "ba": half, "bc": half, "ca": 2 * half,
                                                "cb": half})
            self.assertEqual(around[count], {"ab": short, "ac": long, "ba": long, "bc": short, "ca": short, "cb": long})
            short, long = 2 * long + 1, 2 * long + short + 2

    def test_none_where_no_row_leads(self):
        nothing = {way: None for way in WAYS}
        self.assertEqual(tables(Yard([[None] * 6] * 3))[1:], [nothing] * 3)
        self.assertEqual(tables(Yard([[1, None, None, None, None, None]]))[1], {**nothing, "ab": 1})
        self.assertEqual(tables(Yard([[1, None, None, 1, None, None]]))[1], {**nothing, "ab": 1, "ac": 2, "bc": 1})
        self.assertEqual(tables(Yard([[None] * 6, [1] * 6]))[1:], [{way: 1 for way in WAYS}, nothing])
        self.assertEqual(tables(Yard([[1] * 6, [None] * 6]))[1:], [nothing, nothing])
        self.assertIsNone(tower_cost(Yard([[1, 1, 1, 1, None, None]]), "ca"))

    def test_a_line_with_a_bar_is_left_out(self):
        # The only row from c to a goes over b, for each crate of the two.
        yard = Yard([[9, 9, 2, 9, None, 3], [1, 1, 1, 1, 1, 1]])
        self.assertEqual(tower_cost(yard, "ca"), 1 + 3 + 1 + 2 + 1)
        self.assertEqual(tower_cost(yard, "cb"), 1 + 3 + 1)

    def test_new_dicts_at_each_call(self):
        told = tables(YARD)
        self.assertIs(type(told), list)
        self.assertEqual([list(level) for level in told], [list(WAYS)] * 3)
        self.assertEqual(len({id(level) for level in told}), 3)
        kept = copy.deepcopy(told)
        told[0]["ab"] = 7
        told[1].clear()
        told.pop()
        self.assertEqual(tables(YARD), kept)
        self.assertEqual([tower_cost(YARD, way) for way in WAYS], [7, 4, 7, 4, 10, 4])


class PaperTest(RefusalCase):
    def test_the_tables_are_a_paper_and_tell_the_costs(self):
        for yard in [*searched_yards(3), long_yard(60), Yard([NEXT_DOOR] * 60)]:
            told = tables(yard)
            for value in (told, tuple(told)):
                self.assertIs(is_paper(yard, value), True)
                for way in WAYS:
                    self.assertEqual(told_cost(yard, value, way), told[-1][way])

    def test_papers_with_one_number_changed(self):
        right = wrong = 0
        for yard in searched_yards(3):
            for value in changed_papers(tables(yard)):
                with self.subTest(yard=str(yard), value=value):
                    self.assertIs(is_paper(yard, value), is_within_lines(yard, value))
                    right, wrong = right + is_within_lines(yard, value), wrong + (not is_within_lines(yard, value))
        self.assertGreater(min(right, wrong), 500)

    def test_no_number_of_the_tables_can_be_greater(self):
        for yard in [*searched_yards(3), long_yard(20)]:
            told = tables(yard)
            for at in range(len(told)):
                for way in WAYS:
                    if told[at][way] is not None:
                        self.assertIs(is_paper(yard, changed(told, at, way, told[at][way] + 1)), False)
                        self.assertIs(is_paper(yard, changed(told, at, way, None)), False)

    def test_lesser_numbers_are_papers_if_those_above_follow(self):
        for yard in searched_yards(3):
            last = tables(yard)
            last[-1] = {way: 0 for way in WAYS}
            self.assertIs(is_paper(yard, last), True)
            self.assertEqual(told_cost(yard, last, "ab"), 0)
            self.assertIs(is_paper(yard, [{way: 0 for way in WAYS}] * (len(yard) + 1)), True)
        lower = changed(changed(tables(YARD), 1, "ab", 0), 2, "ca", 9)
        self.assertEqual(is_paper(YARD, lower), is_within_lines(YARD, lower))

    def test_numbers_in_the_place_of_none(self):
        yard = Yard([[None] * 6, [1, 1, 1, 1, 1, 1]])
        for number in (0, 1, 10 ** 79):
            for way in WAYS:
                value = changed(tables(yard), 2, way, number)
                self.assertIs(is_paper(yard, value), True)
                self.assertEqual(told_cost(yard, value, way), number)
                self.assertIs(is_paper(yard, changed(tables(yard), 1, way, number)), number <= 1)

    def test_great_numbers_in_the_place_of_none(self):
        yard = Yard([[1] * 6, [None] * 6])
        zeros = {way: 0 for way in WAYS}
        below = {**{way: None for way in WAYS}, "ab": 10 ** 79, "ba": 10 ** 79}
        # The turning line from a to b is the only one without None.
        for number, right in [
            (0, True), (3 * 10 ** 79 + 2, True), (3 * 10 ** 79 + 3, False), (10 ** 80, False), (None, False)
        ]:
            last = {**{way: None for way in WAYS}, "ab": number, "ba": 5}
            self.assertIs(is_paper(yard, [zeros, below, last]), right)

    def test_the_first_dict_has_zeros_alone(self):
        for yard in (YARD, Yard([[None] * 6])):
            for way in WAYS:
                for number in (1, None, -1, False, True, "0"):
                    self.assertIs(is_paper(yard, changed(tables(yard), 0, way, number)), False)

    def test_values_of_other_forms_are_none(self):
        for yard in (YARD, Yard.even(1, 1), Yard([[None] * 6, [1] * 6])):
            for value in no_papers(yard):
                with self.subTest(yard=str(yard), value=value):
                    self.assertIs(is_paper(yard, value), False)

    def test_the_paper_of_another_yard(self):
        self.assertIs(is_paper(Yard.even(2, 1), tables(Yard.even(2, 2))), False)
        self.assertIs(is_paper(Yard.even(2, 2), tables(Yard.even(2, 1))), True)
        self.assertIs(is_paper(Yard.even(2, 2), tables(Yard.even(3, 1))), False)

    def test_the_order_of_the_keys_means_nothing(self):
        told = [dict(reversed(list(level.items()))) for level in tables(YARD)]
        self.assertIs(is_paper(YARD, told), True)
        self.assertEqual(told_cost(YARD, told, "ca"), 10)

    def test_papers_of_sixty_crates(self):
        yard = long_yard(60)
        told = tables(yard)
        self.assertIs(is_paper(yard, changed(told, 60, "ab", told[60]["ab"] + 1)), False)
        self.assertIs(is_paper(yard, changed(told, 60, "ab", told[60]["ab"] - 1)), True)
        self.assertIs(is_paper(yard, changed(told, 1, "ab", told[1]["ab"] - 1)),
                      is_within_lines(yard, changed(told, 1, "ab", told[1]["ab"] - 1)))

    def test_what_is_judged_stays_as_it_is_and_can_be_changed(self):
        paper = tables(YARD)
        kept = copy.deepcopy(paper)
        self.assertIs(is_paper(YARD, paper), True)
        self.assertEqual(told_cost(YARD, paper, "ca"), 10)
        self.assertEqual(paper, kept)
        paper[2]["ca"] = 9
        self.assertEqual(told_cost(YARD, paper, "ca"), 9)
        self.assertEqual(tower_cost(YARD, "ca"), 10)


class StraightWaysTest(RefusalCase):
    def test_straight_ways_of_small_yards(self):
        turning = 0
        for yard in searched_yards(3):
            with self.subTest(yard=str(yard)):
                told = straight_ways(yard)
                self.assertEqual(len(told), len(yard))
                for crate in range(len(yard)):
                    smaller = yard.smallest(len(yard) - crate)
                    self.assertEqual(told[crate], self.plain_straight_ways(smaller))
                    turning += 6 - len(told[crate])
        self.assertGreater(turning, 50)

    def plain_straight_ways(self, yard):
        search, count = PlainSearch(yard), len(yard)
        told = []
        for at, way in enumerate(WAYS):
            (over,) = set("abc") - set(way)
            rest = over * (count - 1)
            costs = [
                search.cost(way[0] * count, way[0] + rest), yard.rows()[0][at],
                search.cost(way[1] + rest, way[1] * count),
            ]
            if None not in costs and sum(costs) == search.cost(way[0] * count, way[1] * count):
                told.append(way)
        return told

    def test_lines_that_are_alike_in_cost(self):
        self.assertEqual(straight_ways(Yard([[2, 1, 2, 1, 1, 1]])), [["ab", "ac", "ba", "bc", "ca", "cb"]])
        self.assertEqual(straight_ways(Yard([[3, 1, 2, 1, 1, 1]])), [["ac", "ba", "bc", "ca", "cb"]])
        self.assertEqual(straight_ways(Yard([[None, 1, 3, 1, 1, 1]])), [["ac", "bc", "ca", "cb"]])

    def test_where_no_row_leads_no_way_is_straight(self):
        self.assertEqual(straight_ways(Yard([[None] * 6] * 3)), [[], [], []])
        self.assertEqual(straight_ways(Yard([[1] * 6, [None] * 6])), [[], []])
        self.assertEqual(straight_ways(Yard([[None] * 6, [1] * 6])), [[], list(WAYS)])

    def test_sixty_crates(self):
        self.assertEqual(straight_ways(Yard.even(60, 3)), [list(WAYS)] * 60)
        self.assertEqual(straight_ways(Yard([NEXT_DOOR] * 60)), [["ab", "ba", "bc", "cb"]] * 60)

    def test_new_lists_at_each_call(self):
        told = straight_ways(Yard.even(3, 1))
        self.assertEqual(len({id(ways) for ways in told}), 3)
        told[0].clear()
        told.pop()
        self.assertEqual(straight_ways(Yard.even(3, 1)), [list(WAYS)] * 3)


class DocumentTest(RefusalCase):
    def test_the_examples_of_the_document(self):
        yard = Yard([[5, 2, 5, 2, None, 2], [1, 1, 1, 1, 1, 1]])
        self.assertEqual(
            [tables(yard)[1]["ab"], tables(yard)[2], tower_cost(yard, "ca")],
            [1, {"ab": 7, "ac": 4, "ba": 7, "bc": 4, "ca": 10, "cb": 4}, 10],
        )
        self.assertEqual(
            [straight_ways(yard)[0], is_paper(yard, tables(yard)), is_paper(yard, [{way: 0 for way in WAYS}] * 3),
             is_paper(yard, [])],
            [["ab", "ac", "ba", "bc", "cb"], True, True, False],
        )


if __name__ == "__main__":
    unittest.main()
