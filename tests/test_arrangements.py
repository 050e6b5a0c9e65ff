"""Tests of arrangements and single moves: promises 4, 5, 7 to 10, and 31 to 34."""

import itertools
import unittest

from cratetowers import arrangements
from cratetowers.arrangements import (
    allowed, arrangement_at, is_arrangement, move_cost, moved, number_of, on_place, top_crate, tower, way_back,
)
from cratetowers.errors import InvalidArrangement, InvalidCount, InvalidMove, InvalidPlace, InvalidYard
from cratetowers.yards import WAYS, Yard
from tests.helpers import (
    ROWS, RefusalCase, all_arrangements, moves_by_stacks, no_arrangements, no_yards, odd_values, sample_yards,
    stacks_of,
)

BARRED = Yard([[5, 6, 7, None, 8, 9], [1, 2, 3, 4, None, 6]])
NEAR_PLACES = ["A", "d", "ab", "abc", "", " ", "a ", " a", "a\n", 0, 1, ["a"], ("a",)]


# A call of each function with a yard alone; the rest are arguments that would be refused if they were looked at.
CALLS = {
    "is_arrangement": ([],),
    "tower": ("no",),
    "number_of": ([],),
    "arrangement_at": (-1,),
    "on_place": ([], "no"),
    "top_crate": ([], "no"),
    "allowed": ([],),
    "moved": ([], []),
    "move_cost": ([], []),
    "way_back": ([], []),
}
WITH_ARRANGEMENT = {
    number_of: (), on_place: ("no",), top_crate: ("no",), allowed: (), moved: ([],), move_cost: ([],), way_back: ([],),
}


class ChecksTest(RefusalCase):
    def test_wrong_yards_are_refused_ahead_of_all_else(self):
        for name, others in CALLS.items():
            for yard in no_yards():
                with self.subTest(name=name, yard=yard):
                    self.assert_refused(InvalidYard, yard, getattr(arrangements, name), yard, *others)

    def test_wrong_yards_are_refused_beside_right_arguments(self):
        right = {
            is_arrangement: ("aa",), tower: ("a",), number_of: ("aa",), arrangement_at: (0,), on_place: ("aa", "a"),
            top_crate: ("aa", "a"), allowed: ("aa",), moved: ("aa", (1, "b")), move_cost: ("aa", (1, "b")),
            way_back: ("aa", (1, "b")),
        }
        for call, others in right.items():
            for yard in ([[1] * 6] * 2, "1 1 1 1 1 1\n1 1 1 1 1 1", None, 2, "aa"):
                with self.subTest(call=call.__name__, yard=yard):
                    self.assert_refused(InvalidYard, yard, call, yard, *others)

    def test_wrong_arrangements_are_refused_ahead_of_what_follows(self):
        for count in (1, 2, 3, 60):
            yard = Yard.even(count, 1)
            for call, others in WITH_ARRANGEMENT.items():
                for value in no_arrangements(count):
                    with self.subTest(call=call.__name__, count=count, value=value):
                        self.assert_refused(InvalidArrangement, value, call, yard, value, *others)

    def test_wrong_arrangements_are_refused_beside_right_arguments(self):
        for value in no_arrangements(2):
            for call, others in {
                on_place: ("a",), top_crate: ("b",), moved: ((1, "b"),), move_cost: ((1, "b"),), way_back: ((1, "b"),),
            }.items():
                with self.subTest(call=call.__name__, value=value):
                    self.assert_refused(InvalidArrangement, value, call, BARRED, value, *others)

    def test_arguments_by_their_names(self):
        self.assertIs(is_arrangement(yard=BARRED, value="ac"), True)
        self.assertEqual(tower(yard=BARRED, place="c"), "cc")
        self.assertEqual(number_of(yard=BARRED, arrangement="ac"), 2)
        self.assertEqual(arrangement_at(yard=BARRED, number=2), "ac")
        self.assertEqual(on_place(yard=BARRED, arrangement="ac", place="c"), [1])
        self.assertEqual(top_crate(yard=BARRED, arrangement="ac", place="a"), 0)
        self.assertEqual(allowed(yard=BARRED, arrangement="ac"), [(0, "b"), (1, "b")])
        self.assertEqual(moved(yard=BARRED, arrangement="ac", move=(0, "b")), "bc")
        self.assertEqual(move_cost(yard=BARRED, arrangement="ac", move=(0, "b")), 5)
        self.assertEqual(way_back(yard=BARRED, arrangement="ac", move=(0, "b")), (0, "a"))

    def test_a_yard_stays_as_it_is(self):
        yard = Yard(ROWS)
        for arrangement in all_arrangements(yard):
            for move in allowed(yard, arrangement):
                moved(yard, arrangement, move)
                move_cost(yard, arrangement, move)
                way_back(yard, arrangement, move)
        self.assertEqual(yard.rows(), ROWS)


class ArrangementTest(RefusalCase):
    def test_every_string_of_so_many_places_is_one(self):
        for yard in sample_yards():
            for arrangement in all_arrangements(yard):
                self.assertIs(is_arrangement(yard, arrangement), True)
        great = Yard.even(60, 1)
        for arrangement in ("a" * 60, "abc" * 20, "c" * 59 + "b"):
            self.assertIs(is_arrangement(great, arrangement), True)

    def test_nothing_else_is_one(self):
        for count in (1, 2, 3, 59, 60):
            yard = Yard.even(count, 1)
            for value in no_arrangements(count):
                with self.subTest(count=count, value=value):
                    self.assertIs(is_arrangement(yard, value), False)
        self.assertIs(is_arrangement(BARRED, BARRED), False)

    def test_towers(self):
        for count in (1, 2, 60):
            for place in "abc":
                self.assertEqual(tower(Yard.even(count, 1), place), place * count)

    def test_tower_refuses_all_but_places(self):
        for value in [*odd_values(), *NEAR_PLACES, "aa", "cc"]:
            with self.subTest(value=value):
                self.assert_refused(InvalidPlace, value, tower, BARRED, value)
                self.assert_refused(InvalidPlace, value, tower, BARRED, place=value)


class NumberTest(RefusalCase):
    def test_numbers_follow_the_order_of_the_strings(self):
        for count in range(1, 6):
            yard = Yard.even(count, 1)
            ordered = sorted(all_arrangements(yard))
            self.assertEqual([number_of(yard, arrangement) for arrangement in ordered], list(range(3 ** count)))
            self.assertEqual([arrangement_at(yard, number) for number in range(3 ** count)], ordered)

    def test_numbers_of_sixty_crates(self):
        yard = Yard.even(60, 1)
        for number, arrangement in (
            (0, "a" * 60), (1, "a" * 59 + "b"), (5, "a" * 58 + "bc"), (3 ** 60 - 1, "c" * 60),
            (3 ** 60 - 2, "c" * 59 + "b"), (3 ** 59, "b" + "a" * 59), (2 * 3 ** 59 - 1, "b" + "c" * 59),
        ):
            with self.subTest(arrangement=arrangement):
                self.assertEqual(number_of(yard, arrangement), number)
                self.assertEqual(arrangement_at(yard, number), arrangement)

    def test_arrangement_at_refuses_all_but_numbers_of_arrangements(self):
        for count in (1, 2, 3, 30, 60):
            yard = Yard.even(count, 1)
            wrong = [3 ** count, 3 ** count + 1, 3 ** count * 3, -(3 ** count), 10 ** 80, "0", "aa", [0], (0,), {0: 0}]
            for number in [*odd_values(), *wrong]:
                with self.subTest(count=count, number=number):
                    self.assert_refused(InvalidCount, number, arrangement_at, yard, number)
                    self.assert_refused(InvalidCount, number, arrangement_at, yard, number=number)


class PlaceTest(RefusalCase):
    def test_crates_on_each_place(self):
        for yard in sample_yards():
            for arrangement in all_arrangements(yard):
                for place, crates in stacks_of(arrangement).items():
                    self.assertEqual(on_place(yard, arrangement, place), crates)
                    self.assertEqual(top_crate(yard, arrangement, place), crates[-1] if crates else None)

    def test_the_largest_crate_alone_is_on_top(self):
        self.assertEqual(top_crate(BARRED, "ac", "a"), 0)
        self.assertIsNone(top_crate(BARRED, "ac", "b"))
        self.assertEqual(on_place(BARRED, "ac", "b"), [])

    def test_sixty_crates(self):
        yard = Yard.even(60, 1)
        self.assertEqual(on_place(yard, "a" * 60, "a"), list(range(60)))
        self.assertEqual(on_place(yard, "abc" * 20, "b"), list(range(1, 60, 3)))
        self.assertEqual(top_crate(yard, "abc" * 20, "b"), 58)
        self.assertEqual(top_crate(yard, "b" + "a" * 59, "b"), 0)

    def test_wrong_places_are_refused(self):
        for call in (on_place, top_crate):
            for value in [*odd_values(), *NEAR_PLACES]:
                with self.subTest(call=call.__name__, value=value):
                    self.assert_refused(InvalidPlace, value, call, BARRED, "ac", value)
                    self.assert_refused(InvalidPlace, value, call, BARRED, "ac", place=value)

    def test_returned_lists_may_be_changed(self):
        told = on_place(BARRED, "aa", "a")
        told.clear()
        self.assertEqual(on_place(BARRED, "aa", "a"), [0, 1])
        self.assertEqual(allowed(BARRED, "aa"), [(1, "b"), (1, "c")])
        self.assertIsNot(on_place(BARRED, "aa", "b"), on_place(BARRED, "aa", "b"))


class MoveTest(RefusalCase):
    def test_moves_are_those_of_the_stacks(self):
        for yard in sample_yards():
            for arrangement in all_arrangements(yard):
                with self.subTest(yard=str(yard), arrangement=arrangement):
                    self.assertEqual(allowed(yard, arrangement), moves_by_stacks(yard, arrangement))

    def test_all_else_is_refused(self):
        for yard in sample_yards():
            for arrangement in all_arrangements(yard):
                right = moves_by_stacks(yard, arrangement)
                for move in itertools.product(range(len(yard) + 1), "abc"):
                    if move not in right:
                        for call in (moved, move_cost, way_back):
                            self.assert_refused(InvalidMove, move, call, yard, arrangement, move)

    def test_what_moves_do(self):
        for yard in sample_yards():
            for arrangement in all_arrangements(yard):
                for crate, place in moves_by_stacks(yard, arrangement):
                    here = arrangement[crate]
                    places = list(arrangement)
                    places[crate] = place
                    self.assertEqual(moved(yard, arrangement, (crate, place)), "".join(places))
                    price = yard.rows()[crate][WAYS.index(here + place)]
                    self.assertEqual(move_cost(yard, arrangement, (crate, place)), price)
                    self.assertEqual(way_back(yard, arrangement, (crate, place)), (crate, here))

    def test_the_way_back_of_a_move_leads_back(self):
        yard = Yard.even(4, 2)
        for arrangement in all_arrangements(yard):
            for move in allowed(yard, arrangement):
                behind = moved(yard, arrangement, move)
                self.assertEqual(moved(yard, behind, way_back(yard, arrangement, move)), arrangement)

    def test_the_way_back_may_be_barred(self):
        yard = Yard([[1, None, None, None, None, None]])
        self.assertEqual(way_back(yard, "a", (0, "b")), (0, "a"))
        self.assertEqual(allowed(yard, "b"), [])
        self.assert_refused(InvalidMove, (0, "a"), moved, yard, "b", (0, "a"))

    def test_three_moves_or_two_in_a_tower_if_nothing_is_barred(self):
        for count in range(1, 6):
            yard = Yard.even(count, 1)
            for arrangement in all_arrangements(yard):
                self.assertEqual(len(allowed(yard, arrangement)), 2 if len(set(arrangement)) == 1 else 3)

    def test_a_barred_way_is_no_move(self):
        for crate in range(2):
            for way in WAYS:
                yard = Yard.even(2, 1).with_price(crate, way, None)
                for arrangement in ("aa", "ab", "ac", "ba", "bb", "bc", "ca", "cb", "cc"):
                    free = allowed(Yard.even(2, 1), arrangement)
                    kept = [(k, place) for k, place in free if (k, arrangement[k] + place) != (crate, way)]
                    self.assertEqual(allowed(yard, arrangement), kept)

    def test_sixty_crates(self):
        yard = Yard([[60 * crate + column + 1 for column in range(6)] for crate in range(60)])
        self.assertEqual(allowed(yard, "a" * 60), [(59, "b"), (59, "c")])
        self.assertEqual(allowed(yard, "b" + "c" * 59), [(0, "a"), (59, "a"), (59, "b")])
        self.assertEqual(moved(yard, "b" + "c" * 59, (0, "a")), "a" + "c" * 59)
        self.assertEqual(move_cost(yard, "b" + "c" * 59, (0, "a")), 3)
        self.assertEqual(move_cost(yard, "b" + "c" * 59, (59, "b")), 60 * 59 + 6)
        self.assertEqual(way_back(yard, "b" + "c" * 59, (59, "b")), (59, "c"))
        self.assert_refused(InvalidMove, (58, "b"), moved, yard, "a" * 60, (58, "b"))

    def test_prices_of_eighty_figures(self):
        yard = Yard.even(1, 1).with_price(0, "cb", 10 ** 80 - 1)
        self.assertEqual(move_cost(yard, "c", (0, "b")), 10 ** 80 - 1)

    def test_values_that_are_no_moves_are_refused(self):
        forms = [
            0, 1, [1, "b"], ["b", 1], (1,), ("b",), (1, "b", 0), (1, "b", "c"), ("b", 1), ("1", "b"), ((1, "b"),),
            ((1,), "b"), (1, ["b"]), (1, ("b",)), {1: "b"}, "1b", (1, "B"), (1, ""), (1, "ab"), (1, "bc"), (1, "d"),
            (1, "b "), (1, None), (1, 1), (1, True), (None, "b"), (-1, "b"), (2, "b"), (60, "b"), (10 ** 79, "b"),
            (-2, "b"), (True, "b"), (True, "c"), (False, "b"), (1, {}), ({}, "b"), (BARRED, "b"), (1, BARRED),
        ]
        for call in (moved, move_cost, way_back):
            for move in [*odd_values(), *forms]:
                with self.subTest(call=call.__name__, move=move):
                    self.assert_refused(InvalidMove, move, call, BARRED, "aa", move)
                    self.assert_refused(InvalidMove, move, call, BARRED, "aa", move=move)

    def test_true_and_false_are_no_crates(self):
        self.assertEqual(moved(BARRED, "ac", (0, "b")), "bc")
        self.assertEqual(moved(BARRED, "ac", (1, "b")), "ab")
        for call in (moved, move_cost, way_back):
            for move in ((False, "b"), (True, "b")):
                self.assert_refused(InvalidMove, move, call, BARRED, "ac", move)

    def test_moves_of_other_kinds_are_refused(self):
        wrong = {
            "aa": [(1, "a"), (0, "a"), (0, "b"), (0, "c")],
            "ac": [(0, "a"), (1, "c"), (0, "c"), (1, "a")],
            "bb": [(0, "c"), (0, "a"), (1, "b")],
            "bc": [(0, "c"), (1, "a")],
            "ba": [(0, "a"), (0, "c")],
        }
        for arrangement, moves in wrong.items():
            for move in moves:
                for call in (moved, move_cost, way_back):
                    with self.subTest(call=call.__name__, arrangement=arrangement, move=move):
                        self.assert_refused(InvalidMove, move, call, BARRED, arrangement, move)

    def test_moves_are_tuples_of_a_crate_and_a_place(self):
        for move in [*allowed(BARRED, "ac"), way_back(BARRED, "ac", (1, "b"))]:
            self.assertIs(type(move), tuple)
            self.assertEqual([type(part) for part in move], [int, str])

    def test_returned_moves_may_be_changed(self):
        told = allowed(BARRED, "ac")
        self.assertIs(type(told), list)
        told.append((0, "c"))
        self.assertEqual(allowed(BARRED, "ac"), [(0, "b"), (1, "b")])
        self.assertIsNot(allowed(BARRED, "ac"), allowed(BARRED, "ac"))


class DocumentTest(RefusalCase):
    def test_the_examples_of_the_interface(self):
        yard = Yard([[5, 6, 7, None, 8, 9], [1, 2, 3, 4, None, 6]])
        self.assertEqual(
            [tower(yard, "b"), number_of(yard, "cb"), arrangement_at(yard, 7), on_place(yard, "cc", "c"),
             allowed(yard, "aa"), allowed(yard, "ac")],
            ["bb", 7, "cb", [0, 1], [(1, "b"), (1, "c")], [(0, "b"), (1, "b")]],
        )
        self.assertEqual(
            [moved(yard, "ac", (0, "b")), move_cost(yard, "ac", (0, "b")), way_back(yard, "ac", (1, "b"))],
            ["bc", 5, (1, "c")],
        )
        self.assert_refused(InvalidMove, (1, "a"), moved, yard, "ac", (1, "a"))


if __name__ == "__main__":
    unittest.main()
