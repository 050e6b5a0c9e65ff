"""Tests of the least costs between any two arrangements and of their papers: promises 4 to 10, and 61 to 64."""

import copy
import unittest

from cratetowers import costs
from cratetowers.costs import (
    from_towers, is_cost_paper, largest_moving, least, paper, shown_cost, to_towers,
)
from cratetowers.errors import InvalidArrangement, InvalidPaper, InvalidYard
from cratetowers.levels import is_paper, tables
from cratetowers.yards import WAYS, Yard
from tests.helpers import (
    ENDLESS, PlainSearch, RefusalCase, all_arrangements, changed_papers, long_yard, no_arrangements, no_costs, no_yards,
    odd_values, plain_lines, plain_sum, random_yard, searched_yards,
)

YARD = Yard([[5, 2, 5, 2, None, 2], [1, 1, 1, 1, 1, 1]])
START60 = "abcacbbacabccba" * 4
GOAL60 = "cabbacacbcbaabc" * 4


def pairs_of(yard, step):
    """Pairs of arrangements of a yard, one at each step, all of them if the step is 1."""
    every = all_arrangements(yard)
    return [(start, goal) for start in every for goal in every][::step]


def step_of(yard):
    """The step with which the pairs of a small yard are gone through; it is prime to 3, so all starts occur."""
    return {1: 1, 2: 1, 3: 5, 4: 61}[len(yard)]


def the_third(one, other):
    (place,) = set("abc") - {one, other}
    return place


def plain_bounds(yard, count, arrangement, table, ahead, goes):
    """For each place the numbers that one for it must not be greater than, as the document tells them.

    With `goes` the arrangement goes to the towers, otherwise the towers come to the arrangement.
    """
    crate = len(yard) - 1 - count
    price = dict(zip(WAYS, yard.rows()[crate]))
    stands = arrangement[crate]
    bounds = {stands: [plain_sum([ahead[stands]])]}
    for place in set("abc") - {stands}:
        over = the_third(stands, place)
        if goes:
            straight = [ahead[over], price[stands + place], table[over + place]]
            turning = [ahead[place], price[stands + over], table[place + stands], price[over + place],
                       table[stands + place]]
        else:
            straight = [table[place + over], price[place + stands], ahead[over]]
            turning = [table[place + stands], price[place + over], table[stands + place], price[over + stands],
                       ahead[place]]
        bounds[place] = [plain_sum(straight), plain_sum(turning)]
    return bounds


def is_within_bounds(yard, start, goal, value):
    """Tell of a tuple of three lists of the right form whether it is a paper for two arrangements."""
    endless = [[{name: ENDLESS if cost is None else cost for name, cost in level.items()} for level in part]
               for part in value]
    for count in range(len(yard)):
        for way in WAYS:
            if endless[0][count + 1][way] > min(plain_lines(yard, count, way, value[0][count])):
                return False
        for at, arrangement in ((1, start), (2, goal)):
            bounds = plain_bounds(yard, count, arrangement, value[0][count], value[at][count], at == 1)
            if any(endless[at][count + 1][place] > min(bounds[place]) for place in "abc"):
                return False
    return all(number == 0 for part in endless for number in part[0].values())


def plain_shown(yard, start, goal, value):
    """What a paper tells by the two sums of the document."""
    moving = [crate for crate in range(len(yard)) if start[crate] != goal[crate]]
    if not moving:
        return 0
    count = len(yard) - 1 - moving[0]
    here, there = start[moving[0]], goal[moving[0]]
    over = the_third(here, there)
    price = dict(zip(WAYS, yard.rows()[moving[0]]))
    table, go, come = [part[count] for part in value]
    told = min(
        plain_sum([go[over], price[here + there], come[over]]),
        plain_sum([go[there], price[here + over], table[there + here], price[over + there], come[here]]),
    )
    return None if told == ENDLESS else told


def with_number(value, part, at, name, number):
    """A paper for two arrangements with another number at one place."""
    told = copy.deepcopy(value)
    told[part][at][name] = number
    return told


def no_papers(yard, start, goal):
    """Values that are no papers for two arrangements because of their form."""
    right = paper(yard, start, goal)
    table, go, come = right
    values = [*odd_values(), list(right), right[:2], right + (come,), (), (right,), {0: table, 1: go, 2: come}]
    values += [tables(yard), (table, table, table), (go, table, come), (table, go, table), (go, go, come), str(right)]
    values += [(table[:-1], go, come), (table, go[:-1], come), (table, go, come[:-1]), (table, go + [go[-1]], come)]
    values += [(table, go, come + [come[-1]]), (table[:-1], go[:-1], come[:-1]), (table, [], []), (table, None, come)]
    values += [(table, go, None), (None, go, come), (table, {0: go}, come), (table, go, {"a": 0}), (table, "go", come)]
    for part in (1, 2):
        for at in range(len(go)):
            for level in (None, [], {}, (), 0, "abc", ["a", "b", "c"], {**right[part][at], "d": 0}, table[at]):
                values.append(tuple(
                    [*told[:at], level, *told[at + 1:]] if k == part else told for k, told in enumerate(right)
                ))
            for place in "abc":
                fewer = copy.deepcopy(right)
                del fewer[part][at][place]
                values.append(fewer)
                values.append(with_number(fewer, part, at, place.upper(), 0))
                values.append(with_number(fewer, part, at, 0, 0))
                values += [with_number(right, part, at, place, wrong) for wrong in no_costs()]
    for at in range(len(table)):
        values += [with_number(right, 0, at, way, wrong) for way in WAYS for wrong in no_costs()]
    return values


class ChecksTest(RefusalCase):
    def test_wrong_yards_are_refused_ahead_of_all_else(self):
        calls = {
            "to_towers": [("no",), ("aa",)], "from_towers": [("no",), ("aa",)], "least": [("no", "no"), ("aa", "ab")],
            "largest_moving": [("no", "no"), ("aa", "ab")], "paper": [("no", "no"), ("aa", "ab")],
            "is_cost_paper": [("no", "no", "no"), ("aa", "ab", paper(YARD, "aa", "ab"))],
            "shown_cost": [("no", "no", "no"), ("aa", "ab", paper(YARD, "aa", "ab"))],
        }
        for name, cases in calls.items():
            for others in cases:
                for yard in no_yards():
                    with self.subTest(name=name, yard=yard):
                        self.assert_refused(InvalidYard, yard, getattr(costs, name), yard, *others)

    def test_wrong_starts_are_refused_ahead_of_goals_and_papers(self):
        for start in no_arrangements(2):
            with self.subTest(start=start):
                self.assert_refused(InvalidArrangement, start, to_towers, YARD, start)
                self.assert_refused(InvalidArrangement, start, to_towers, YARD, start=start)
                for goal in ("aa", ["no"], None):
                    for call in (least, largest_moving, paper):
                        self.assert_refused(InvalidArrangement, start, call, YARD, start, goal)
                    for call in (is_cost_paper, shown_cost):
                        self.assert_refused(InvalidArrangement, start, call, YARD, start, goal, "no")

    def test_wrong_goals_are_refused_ahead_of_papers(self):
        for goal in no_arrangements(2):
            with self.subTest(goal=goal):
                self.assert_refused(InvalidArrangement, goal, from_towers, YARD, goal)
                self.assert_refused(InvalidArrangement, goal, from_towers, YARD, goal=goal)
                for call in (least, largest_moving, paper):
                    self.assert_refused(InvalidArrangement, goal, call, YARD, "aa", goal)
                for call in (is_cost_paper, shown_cost):
                    self.assert_refused(InvalidArrangement, goal, call, YARD, "aa", goal, "no")

    def test_wrong_papers_are_refused_at_last(self):
        for start, goal in (("ca", "ab"), ("ab", "ab"), ("ba", "bc")):
            for value in no_papers(YARD, start, goal):
                with self.subTest(start=start, goal=goal, value=value):
                    self.assertIs(is_cost_paper(YARD, start, goal, value), False)
                    self.assert_refused(InvalidPaper, value, shown_cost, YARD, start, goal, value)
                    self.assert_refused(InvalidPaper, value, shown_cost, YARD, start, goal, paper=value)

    def test_arguments_by_their_names(self):
        self.assertEqual(to_towers(yard=YARD, start="ab"), {"a": 1, "b": 6, "c": 3})
        self.assertEqual(from_towers(yard=YARD, goal="ab"), {"a": 1, "b": 7, "c": 10})
        self.assertEqual(least(yard=YARD, start="ca", goal="ab"), 9)
        self.assertEqual(largest_moving(yard=YARD, start="ca", goal="ab"), 0)
        told = paper(yard=YARD, start="ca", goal="ab")
        self.assertEqual(told, paper(YARD, "ca", "ab"))
        self.assertIs(is_cost_paper(yard=YARD, start="ca", goal="ab", value=told), True)
        self.assertEqual(shown_cost(yard=YARD, start="ca", goal="ab", paper=told), 9)


class TowersTest(RefusalCase):
    def test_least_costs_to_and_from_the_towers(self):
        for yard in searched_yards(4):
            search = PlainSearch(yard)
            for arrangement in all_arrangements(yard)[::7 if len(yard) == 4 else 1]:
                with self.subTest(yard=str(yard), arrangement=arrangement):
                    towers = {place: place * len(yard) for place in "abc"}
                    to_them = {place: search.cost(arrangement, goal) for place, goal in towers.items()}
                    from_them = {place: search.cost(start, arrangement) for place, start in towers.items()}
                    self.assertEqual(to_towers(yard, arrangement), to_them)
                    self.assertEqual(from_towers(yard, arrangement), from_them)

    def test_from_tower_to_tower(self):
        for yard in [*searched_yards(3), long_yard(60), Yard([[1, None, 1, 1, None, 1]] * 60)]:
            table = tables(yard)[-1]
            for first in "abc":
                tower = first * len(yard)
                others = [place for place in "abc" if place != first]
                self.assertEqual(to_towers(yard, tower), {first: 0, **{last: table[first + last] for last in others}})
                self.assertEqual(from_towers(yard, tower), {first: 0, **{last: table[last + first] for last in others}})

    def test_new_dicts_at_each_call(self):
        for call in (to_towers, from_towers):
            told = call(YARD, "ab")
            self.assertEqual((type(told), list(told)), (dict, ["a", "b", "c"]))
            kept = dict(told)
            told.clear()
            self.assertEqual(call(YARD, "ab"), kept)


class LeastTest(RefusalCase):
    def test_least_costs_of_small_yards(self):
        unreached = 0
        for yard in searched_yards(4):
            search = PlainSearch(yard)
            for start, goal in pairs_of(yard, step_of(yard)):
                with self.subTest(yard=str(yard), start=start, goal=goal):
                    self.assertEqual(least(yard, start, goal), search.cost(start, goal))
                    unreached += search.cost(start, goal) is None
        self.assertGreater(unreached, 100)

    def test_the_largest_crate_with_unlike_places(self):
        for yard in (Yard.even(1, 1), YARD, Yard([[None] * 6] * 3)):
            for start, goal in pairs_of(yard, 1):
                unlike = [crate for crate in range(len(yard)) if start[crate] != goal[crate]]
                self.assertEqual(largest_moving(yard, start, goal), min(unlike) if unlike else None)
        yard = Yard.even(60, 1)
        self.assertEqual(largest_moving(yard, "a" * 59 + "b", "a" * 60), 59)
        self.assertEqual(largest_moving(yard, "b" + "a" * 59, "c" + "b" * 59), 0)
        self.assertIsNone(largest_moving(yard, START60, START60))

    def test_the_same_arrangement_costs_nothing(self):
        for yard in (Yard([[None] * 6] * 3), Yard.even(3, 10 ** 30 - 1)):
            for arrangement in all_arrangements(yard):
                self.assertEqual(least(yard, arrangement, arrangement), 0)

    def test_largest_crates_that_stay_do_not_count(self):
        for yard in searched_yards(2):
            for heavy in ([None] * 6, [1] * 6, [10 ** 29] * 6):
                longer = Yard([heavy, *yard.rows()])
                for start, goal in pairs_of(yard, 4):
                    for place in "abc":
                        self.assertEqual(least(longer, place + start, place + goal), least(yard, start, goal))

    def test_costs_of_sixty_crates(self):
        great = 10 ** 30 - 1
        self.assertEqual(least(Yard.even(60, great), "a" * 60, "c" * 60), great * (2 ** 60 - 1))
        next_door = Yard([[1, None, 1, 1, None, 1]] * 60)
        self.assertEqual(least(next_door, "a" * 60, "c" * 60), 3 ** 60 - 1)
        self.assertEqual(least(next_door, "c" * 60, "b" * 60), (3 ** 60 - 1) // 2)
        # Where only neighbours are free, all arrangements lie on one line from tower to tower, in a reflected order.
        told = [least(next_door, "a" * 60, goal) for goal in (START60, GOAL60)]
        self.assertEqual(told, [reflected_number(START60), reflected_number(GOAL60)])
        self.assertEqual(least(next_door, START60, GOAL60), abs(told[0] - told[1]))
        self.assertIsNone(least(Yard([[None] * 6] + [[1] * 6] * 59), "a" * 60, "b" + "a" * 59))

    def test_the_two_sums_of_sixty_crates(self):
        for yard in (long_yard(60), random_yard(5, 60, [1, 2, 3, 10 ** 29])):
            shown = paper(yard, START60, GOAL60)
            self.assertEqual(plain_shown(yard, START60, GOAL60, shown), least(yard, START60, GOAL60))
            self.assertIs(is_within_bounds(yard, START60, GOAL60, shown), True)

    def test_costs_backwards(self):
        for yard in [*searched_yards(3), random_yard(8, 40, [1, 2, 5])]:
            start, goal = START60[:len(yard)], GOAL60[:len(yard)]
            self.assertEqual(least(yard, start, goal), least(yard.backwards(), goal, start))
            self.assertEqual(to_towers(yard, start), from_towers(yard.backwards(), start))


def reflected_number(arrangement):
    """How many moves of all crates between neighbours lead from the tower on a to an arrangement."""
    number, turned = 0, False
    for place in arrangement:
        digit = "cba".index(place) if turned else "abc".index(place)
        number = 3 * number + digit
        turned = turned != (digit == 1)
    return number


class PaperTest(RefusalCase):
    def test_the_paper_has_the_greatest_numbers(self):
        for yard in searched_yards(3):
            for start, goal in pairs_of(yard, 4 * step_of(yard) + 1):
                with self.subTest(yard=str(yard), start=start, goal=goal):
                    told = paper(yard, start, goal)
                    self.assertEqual((type(told), [type(part) for part in told]), (tuple, [list] * 3))
                    self.assertEqual(told[0], tables(yard))
                    self.assertEqual(told[1][0], {"a": 0, "b": 0, "c": 0})
                    self.assertEqual(told[2][0], {"a": 0, "b": 0, "c": 0})
                    for count in range(1, len(yard) + 1):
                        smaller = yard.smallest(count)
                        self.assertEqual(told[1][count], to_towers(smaller, start[len(yard) - count:]))
                        self.assertEqual(told[2][count], from_towers(smaller, goal[len(yard) - count:]))
                    self.assertEqual([len(part) for part in told], [len(yard) + 1] * 3)

    def test_papers_are_right_and_tell_the_least_costs(self):
        for yard in searched_yards(3):
            search = PlainSearch(yard)
            for start, goal in pairs_of(yard, 4 * step_of(yard) + 1):
                told = paper(yard, start, goal)
                lists_as_tuples = tuple(tuple(part) for part in told)
                for value in (told, lists_as_tuples):
                    self.assertIs(is_cost_paper(yard, start, goal, value), True)
                    self.assertEqual(shown_cost(yard, start, goal, value), search.cost(start, goal))

    def test_papers_with_one_number_changed(self):
        right = wrong = 0
        for yard in searched_yards(2):
            search = PlainSearch(yard)
            for start, goal in pairs_of(yard, 17):
                told = paper(yard, start, goal)
                for part in range(3):
                    for other in changed_papers(told[part]):
                        value = (*told[:part], other, *told[part + 1:])
                        with self.subTest(yard=str(yard), start=start, goal=goal, value=value):
                            judged = is_within_bounds(yard, start, goal, value)
                            self.assertIs(is_cost_paper(yard, start, goal, value), judged)
                            right, wrong = right + judged, wrong + (not judged)
                            if judged:
                                self.assert_shown(yard, start, goal, value, search.cost(start, goal))
                            else:
                                self.assert_refused(InvalidPaper, value, shown_cost, yard, start, goal, value)
        self.assertGreater(min(right, wrong), 1000)

    def assert_shown(self, yard, start, goal, value, cost):
        shown = shown_cost(yard, start, goal, value)
        self.assertEqual(shown, plain_shown(yard, start, goal, value))
        if cost is not None:
            self.assertLessEqual(shown, cost)

    def test_papers_of_three_crates_with_one_number_changed(self):
        for yard in (random_yard(1, 3, [1, 2, 3]), random_yard(9, 3, [1, 2, 3, None])):
            for start, goal in (("abc", "bca"), ("aab", "aca"), ("ccc", "bbb")):
                told = paper(yard, start, goal)
                for part in range(3):
                    for other in changed_papers(told[part]):
                        value = (*told[:part], other, *told[part + 1:])
                        judged = is_within_bounds(yard, start, goal, value)
                        self.assertIs(is_cost_paper(yard, start, goal, value), judged)
                        if judged:
                            self.assert_shown(yard, start, goal, value, least(yard, start, goal))

    def test_no_number_can_be_greater(self):
        for yard, start, goal in ((YARD, "ca", "ab"), (YARD, "ab", "ab"), (long_yard(20), START60[:20], GOAL60[:20])):
            told = paper(yard, start, goal)
            for part in range(3):
                for at, level in enumerate(told[part]):
                    for name, cost in level.items():
                        if cost is not None:
                            for greater in (cost + 1, None):
                                value = with_number(told, part, at, name, greater)
                                self.assertIs(is_cost_paper(yard, start, goal, value), False)

    def test_lesser_numbers_tell_less(self):
        table, go, come = paper(YARD, "ca", "ab")
        self.assertEqual(shown_cost(YARD, "ca", "ab", (table, go, come)), 9)
        zeros, nothing = [{way: 0 for way in WAYS}] * 3, [{"a": 0, "b": 0, "c": 0}] * 3
        self.assertIs(is_cost_paper(YARD, "ca", "ab", (zeros, nothing, nothing)), True)
        # The way from c to a is barred to crate 0, so what is left are its prices over b.
        self.assertEqual(shown_cost(YARD, "ca", "ab", (zeros, nothing, nothing)), 7)
        self.assertEqual(shown_cost(YARD, "aa", "cb", (zeros, nothing, nothing)), 2)
        self.assertEqual(shown_cost(YARD, "ab", "ab", (zeros, nothing, nothing)), 0)

    def test_none_stands_only_where_no_row_leads(self):
        yard = Yard([[1, None, None, None, None, None], [1, 1, 1, 1, 1, 1]])
        told = paper(yard, "ba", "ab")
        self.assertIsNone(shown_cost(yard, "ba", "ab", told))
        self.assertEqual(told[1][2], {"a": None, "b": 1, "c": None})
        self.assertEqual(told[2][2], {"a": 1, "b": None, "c": None})
        for number in (0, 5, 10 ** 79):
            value = with_number(told, 1, 2, "a", number)
            self.assertIs(is_cost_paper(yard, "ba", "ab", value), True)
        self.assertIs(is_cost_paper(yard, "ba", "ab", with_number(told, 1, 1, "a", None)), False)

    def test_the_lists_have_to_be_about_these_arrangements(self):
        table, go, come = paper(YARD, "ca", "ab")
        self.assertIs(is_cost_paper(YARD, "ca", "ab", (table, come, go)), False)
        self.assertIs(is_cost_paper(YARD, "ab", "ca", (table, go, come)), False)
        other_table = tables(Yard.even(2, 3))
        self.assertIs(is_cost_paper(YARD, "ca", "ab", (other_table, go, come)), False)
        self.assertIs(is_paper(YARD, other_table), False)

    def test_the_same_arrangement_shows_nothing(self):
        for arrangement in all_arrangements(YARD):
            self.assertEqual(shown_cost(YARD, arrangement, arrangement, paper(YARD, arrangement, arrangement)), 0)

    def test_papers_of_sixty_crates(self):
        yard = long_yard(60)
        told = paper(yard, START60, GOAL60)
        self.assertIs(is_cost_paper(yard, START60, GOAL60, told), True)
        self.assertEqual(shown_cost(yard, START60, GOAL60, told), least(yard, START60, GOAL60))
        for part, name in ((0, "ab"), (1, "b"), (2, "c")):
            lower = with_number(told, part, 60, name, told[part][60][name] - 1)
            self.assertIs(is_cost_paper(yard, START60, GOAL60, lower), True)
            greater = with_number(told, part, 60, name, told[part][60][name] + 1)
            self.assertIs(is_cost_paper(yard, START60, GOAL60, greater), False)


class CopiesTest(RefusalCase):
    def test_what_is_returned_can_be_changed(self):
        told = paper(YARD, "ca", "ab")
        kept = copy.deepcopy(told)
        inner = [level for part in told for level in part]
        self.assertEqual(len({id(level) for level in inner}), 9)
        for level in inner:
            level.clear()
        for part in told:
            part.clear()
        self.assertEqual(paper(YARD, "ca", "ab"), kept)
        self.assertEqual(least(YARD, "ca", "ab"), 9)

    def test_what_is_handed_in_stays_as_it_is_and_can_be_changed(self):
        value = paper(YARD, "ca", "ab")
        kept = copy.deepcopy(value)
        self.assertIs(is_cost_paper(YARD, "ca", "ab", value), True)
        self.assertEqual(shown_cost(YARD, "ca", "ab", value), 9)
        self.assertEqual(value, kept)
        for level in value[1]:
            for place in level:
                level[place] = 0
        self.assertEqual(shown_cost(YARD, "ca", "ab", value), plain_shown(YARD, "ca", "ab", value))
        self.assertEqual(shown_cost(YARD, "ca", "ab", kept), 9)

    def test_the_order_of_the_keys_means_nothing(self):
        value = tuple(
            [dict(reversed(list(level.items()))) for level in part] for part in paper(YARD, "ca", "ab")
        )
        self.assertIs(is_cost_paper(YARD, "ca", "ab", value), True)
        self.assertEqual(shown_cost(YARD, "ca", "ab", value), 9)


class DocumentTest(RefusalCase):
    def test_the_examples_of_the_document(self):
        yard = Yard([[5, 2, 5, 2, None, 2], [1, 1, 1, 1, 1, 1]])
        self.assertEqual(
            [to_towers(yard, "ab"), from_towers(yard, "ab"), least(yard, "ca", "ab"), least(yard, "ab", "ac"),
             largest_moving(yard, "ab", "ac")],
            [{"a": 1, "b": 6, "c": 3}, {"a": 1, "b": 7, "c": 10}, 9, 1, 1],
        )
        shown = paper(yard, "ca", "ab")
        self.assertEqual(
            [is_cost_paper(yard, "ca", "ab", shown), shown_cost(yard, "ca", "ab", shown),
             is_cost_paper(yard, "ca", "ab", shown[:2])],
            [True, 9, False],
        )


if __name__ == "__main__":
    unittest.main()
