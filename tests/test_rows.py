"""Tests of rows of moves: promises 5, 7 to 10, and 41 to 44."""

import random
import unittest

from cratetowers import rows
from cratetowers.arrangements import allowed
from cratetowers.errors import InvalidArrangement, InvalidCount, InvalidRow, InvalidYard
from cratetowers.rows import (
    all_behind, behind, cut_short, first_bad, is_row, row_back, row_cost, row_crates, row_of_largest,
)
from cratetowers.yards import WAYS, Yard
from tests.helpers import (
    RefusalCase, all_arrangements, moves_by_stacks, no_arrangements, no_yards, odd_values, random_yard, sample_yards,
)

BARRED = Yard([[5, 6, 7, None, 8, 9], [1, 2, 3, 4, None, 6]])
ROW = [(1, "b"), (1, "c"), (0, "b"), (1, "b")]
# The functions that want a row of allowed moves, with what follows the row.
OF_ROWS = {
    behind: (), all_behind: (), row_cost: (), row_crates: (), row_of_largest: (2,), cut_short: (), row_back: (),
}
NO_COUNTS = [3, 4, 60, 1000, -1, -2, 10 ** 79, "0", "1", [0], (1,), {0: 0}]


def walk(yard, start, length, seed):
    """A row of so many moves, or fewer where no move is allowed any more, and the arrangements on its way."""
    chance = random.Random(seed)
    row, passed = [], [start]
    while len(row) < length and moves_by_stacks(yard, passed[-1]):
        move = chance.choice(moves_by_stacks(yard, passed[-1]))
        row.append(move)
        passed.append(passed[-1][:move[0]] + move[1] + passed[-1][move[0] + 1:])
    return row, passed


def walks():
    """Yards, starts, rows and the arrangements on the way, with and without rings."""
    for yard in sample_yards():
        for at, start in enumerate(all_arrangements(yard)[::7]):
            for length in (0, 1, 2, 5, 12, 30):
                row, passed = walk(yard, start, length, 100 * at + length)
                yield yard, start, row, passed


def without_rings(row, passed):
    """The row without its rings, one ring after the other, each one as long as can be."""
    row, passed = list(row), list(passed)
    at = 0
    while at < len(passed):
        last = max(k for k, arrangement in enumerate(passed) if arrangement == passed[at])
        del row[at:last]
        del passed[at:last]
        at += 1
    return row


def no_rows():
    """Values that are no lists of at most 1000 tuples of one of two crates and a place."""
    bad_moves = [
        [1, "b"], ["b", 1], (1,), ("b",), (), (1, "b", 0), ("b", 1), ("1", "b"), ((1, "b"),), (1, ["b"]), (1, "B"),
        (1, ""), (1, "ab"), (1, "d"), (1, None), (1, 1), (None, "b"), (-1, "b"), (2, "b"), (10 ** 79, "b"), "1b",
        (True, "b"), (False, "b"), {1: "b"}, None, 1, BARRED, (BARRED, "b"), (1, BARRED), [(1, "b")],
    ]
    values = [value for value in odd_values() if value not in ([], ())]
    values += [[move] for move in bad_moves] + [(move,) for move in bad_moves] + [ROW + [move] for move in bad_moves]
    values += [[move, *ROW] for move in bad_moves]
    values += [(1, "b"), "1b", {0: (1, "b")}, [ROW], [ROW, ROW], [(1, "b"), (1, "c")] * 501]
    values += [[(1, "b"), (1, "c")] * 500 + [(1, "b")], ((1, "b"), (1, "c")) * 500 + ((1, "b"),)]
    return values


class ChecksTest(RefusalCase):
    def test_wrong_yards_are_refused_ahead_of_all_else(self):
        for yard in no_yards():
            for start, row in (("no", "no"), ("aa", ROW)):
                with self.subTest(yard=yard, start=start):
                    self.assert_refused(InvalidYard, yard, is_row, yard, start, row)
                    self.assert_refused(InvalidYard, yard, first_bad, yard, start, row)
                    for call, others in OF_ROWS.items():
                        self.assert_refused(InvalidYard, yard, call, yard, start, row, *others)
                    self.assert_refused(InvalidYard, yard, row_of_largest, yard, start, row, "no")

    def test_wrong_starts_are_refused_ahead_of_rows_and_counts(self):
        for count in (1, 2, 60):
            yard = Yard.even(count, 1)
            for start in no_arrangements(count):
                for row in ([], None, [(count - 1, "b")]):
                    with self.subTest(count=count, start=start):
                        self.assert_refused(InvalidArrangement, start, is_row, yard, start, row)
                        self.assert_refused(InvalidArrangement, start, first_bad, yard, start, row)
                        for call, others in OF_ROWS.items():
                            self.assert_refused(InvalidArrangement, start, call, yard, start, row, *others)
                        self.assert_refused(InvalidArrangement, start, row_of_largest, yard, start, row, "no")

    def test_wrong_rows_are_refused_ahead_of_moves_and_counts(self):
        for row in no_rows():
            with self.subTest(row=row):
                self.assertIs(is_row(BARRED, "aa", row), False)
                self.assert_refused(InvalidRow, row, first_bad, BARRED, "aa", row)
                self.assert_refused(InvalidRow, row, first_bad, BARRED, "aa", row=row)
                for call, others in OF_ROWS.items():
                    self.assert_refused(InvalidRow, row, call, BARRED, "aa", row, *others)
                self.assert_refused(InvalidRow, row, row_of_largest, BARRED, "aa", row, "no")

    def test_a_wrong_form_counts_ahead_of_an_earlier_refused_move(self):
        for row in ([(0, "b"), (2, "b")], [(1, "a"), [1, "b"]], ((0, "a"), (0, "a"), "no")):
            self.assert_refused(InvalidRow, row, first_bad, BARRED, "aa", row)
            for call, others in OF_ROWS.items():
                self.assert_refused(InvalidRow, row, call, BARRED, "aa", row, *others)

    def test_wrong_counts_are_refused_at_last(self):
        for count in [value for value in odd_values() if value != 0] + NO_COUNTS:
            with self.subTest(count=count):
                self.assert_refused(InvalidCount, count, row_of_largest, BARRED, "aa", ROW, count)
                self.assert_refused(InvalidCount, count, row_of_largest, BARRED, "aa", [], count=count)
                self.assert_not_allowed(1, row_of_largest, BARRED, "aa", [(1, "b"), (0, "b")], count)

    def test_arguments_by_their_names(self):
        self.assertIs(is_row(yard=BARRED, start="aa", value=ROW), True)
        self.assertIsNone(first_bad(yard=BARRED, start="aa", row=ROW))
        self.assertEqual(behind(yard=BARRED, start="aa", row=ROW), "bb")
        self.assertEqual(all_behind(yard=BARRED, start="aa", row=ROW[:1]), ["aa", "ab"])
        self.assertEqual(row_cost(yard=BARRED, start="aa", row=ROW), 16)
        self.assertEqual(row_crates(yard=BARRED, start="aa", row=ROW), [1, 3])
        self.assertEqual(row_of_largest(yard=BARRED, start="aa", row=ROW, count=1), [(0, "b")])
        self.assertEqual(cut_short(yard=BARRED, start="aa", row=ROW), ROW)
        self.assertEqual(row_back(yard=BARRED, start="aa", row=ROW[:1]), [(1, "a")])


class FirstBadTest(RefusalCase):
    def test_rows_of_allowed_moves_have_none(self):
        for yard, start, row, _ in walks():
            for told in (row, tuple(row)):
                self.assertIsNone(first_bad(yard, start, told))
                self.assertIs(is_row(yard, start, told), True)

    def test_the_first_refused_move_counts(self):
        for yard, start, row, passed in walks():
            right = moves_by_stacks(yard, passed[-1])
            for crate in range(len(yard)):
                for place in "abc":
                    if (crate, place) not in right:
                        # What follows the first one is not looked at: it is refused, too, or would be allowed.
                        longer = row + [(crate, place), (crate, place)] + right
                        with self.subTest(yard=str(yard), start=start, row=longer):
                            self.assertEqual(first_bad(yard, start, longer), len(row))
                            self.assertEqual(first_bad(yard, start, tuple(longer)), len(row))
                            self.assertIs(is_row(yard, start, longer), False)

    def test_all_others_raise_the_index(self):
        wrong = {
            0: [(1, "a"), (1, "b")], 1: [(1, "b"), (0, "b"), (1, "c")], 2: ((1, "b"), (1, "c"), (1, "c")),
            4: ROW + [(1, "b")], 5: ROW + [(1, "c"), (0, "c")],
        }
        for index, row in wrong.items():
            self.assertEqual(first_bad(BARRED, "aa", row), index)
            for call, others in OF_ROWS.items():
                with self.subTest(call=call.__name__, index=index):
                    self.assert_not_allowed(index, call, BARRED, "aa", row, *others)

    def test_a_move_to_the_place_where_the_crate_stands_is_none(self):
        for start in all_arrangements(BARRED):
            for crate in range(2):
                self.assertEqual(first_bad(BARRED, start, [(crate, start[crate])]), 0)

    def test_a_barred_move_is_none(self):
        free = Yard.even(2, 1)
        self.assertIsNone(first_bad(free, "ac", [(1, "a")]))
        self.assertEqual(first_bad(BARRED, "ac", [(1, "a")]), 0)
        self.assertIsNone(first_bad(free, "ac", [(0, "b"), (1, "a"), (0, "c")]))
        self.assertEqual(first_bad(BARRED, "ac", [(0, "b"), (1, "b"), (1, "a"), (0, "c")]), 3)


class LimitsTest(RefusalCase):
    def test_the_empty_row(self):
        for empty in ([], ()):
            self.assertIs(is_row(BARRED, "ac", empty), True)
            self.assertIsNone(first_bad(BARRED, "ac", empty))
            self.assertEqual(behind(BARRED, "ac", empty), "ac")
            self.assertEqual(all_behind(BARRED, "ac", empty), ["ac"])
            self.assertEqual(row_cost(BARRED, "ac", empty), 0)
            self.assertEqual(row_crates(BARRED, "ac", empty), [0, 0])
            self.assertEqual(row_of_largest(BARRED, "ac", empty, 2), [])
            self.assertEqual(cut_short(BARRED, "ac", empty), [])
            self.assertEqual(row_back(BARRED, "ac", empty), [])

    def test_rows_of_1000_moves_and_not_of_1001(self):
        yard = Yard([[60 * crate + column + 1 for column in range(6)] for crate in range(60)])
        row, passed = walk(yard, "abc" * 20, 1001, 5)
        longest = row[:1000]
        self.assertIs(is_row(yard, "abc" * 20, longest), True)
        self.assertIsNone(first_bad(yard, "abc" * 20, longest))
        self.assertEqual(all_behind(yard, "abc" * 20, longest), passed[:1001])
        self.assertEqual(behind(yard, "abc" * 20, tuple(longest)), passed[1000])
        self.assertEqual(sum(row_crates(yard, "abc" * 20, longest)), 1000)
        self.assertEqual(row_of_largest(yard, "abc" * 20, longest, 60), longest)
        self.assertEqual(len(row_back(yard, "abc" * 20, longest)), 1000)
        self.assertEqual(cut_short(yard, "abc" * 20, longest), without_rings(longest, passed[:1001]))
        for wrong in (row, tuple(row), row + row):
            self.assertIs(is_row(yard, "abc" * 20, wrong), False)
            self.assert_refused(InvalidRow, wrong, first_bad, yard, "abc" * 20, wrong)
            for call, others in OF_ROWS.items():
                self.assert_refused(InvalidRow, wrong, call, yard, "abc" * 20, wrong, *others)

    def test_the_last_one_of_1000_moves_can_be_refused(self):
        row = [(1, "b"), (1, "c")] * 499 + [(1, "b"), (0, "b")]
        self.assertEqual(first_bad(BARRED, "ac", row), 999)
        self.assert_not_allowed(999, behind, BARRED, "ac", row)

    def test_great_prices(self):
        yard = Yard.even(1, 10 ** 30 - 1)
        self.assertEqual(row_cost(yard, "a", [(0, "b"), (0, "a")] * 500), 1000 * (10 ** 30 - 1))


class BehindTest(RefusalCase):
    def test_arrangements_costs_and_crates(self):
        for yard, start, row, passed in walks():
            prices = [
                yard.rows()[crate][WAYS.index(here[crate] + place)] for here, (crate, place) in zip(passed, row)
            ]
            for told in (row, tuple(row)):
                self.assertEqual(all_behind(yard, start, told), passed)
                self.assertEqual(behind(yard, start, told), passed[-1])
                self.assertEqual(row_cost(yard, start, told), sum(prices))
                often = [len([move for move in row if move[0] == crate]) for crate in range(len(yard))]
                self.assertEqual(row_crates(yard, start, told), often)

    def test_the_moves_of_the_largest_crates_are_a_row_of_theirs(self):
        for yard, start, row, passed in walks():
            self.assertEqual(row_of_largest(yard, start, row, 0), [])
            self.assertEqual(row_of_largest(yard, start, tuple(row), len(yard)), row)
            for count in range(1, len(yard) + 1):
                largest = Yard(yard.rows()[:count])
                told = row_of_largest(yard, start, row, count)
                self.assertEqual(told, [move for move in row if move[0] in range(count)])
                self.assertIs(is_row(largest, start[:count], told), True)
                self.assertEqual(behind(largest, start[:count], told), passed[-1][:count])


class CutShortTest(RefusalCase):
    def test_rows_without_rings(self):
        shorter = 0
        for yard, start, row, passed in walks():
            for told in (row, tuple(row)):
                with self.subTest(yard=str(yard), start=start, row=row):
                    short = cut_short(yard, start, told)
                    self.assertEqual(short, without_rings(row, passed))
                    kept = all_behind(yard, start, short)
                    self.assertEqual(kept[-1], passed[-1])
                    self.assertEqual(len(set(kept)), len(kept))
                    self.assertLessEqual(row_cost(yard, start, short), row_cost(yard, start, row))
                    self.assertEqual(cut_short(yard, start, short), short)
                    if len(set(passed)) == len(passed):
                        self.assertEqual(short, row)
                    shorter += len(short) < len(row)
        self.assertGreater(shorter, 100)

    def test_the_last_time_counts(self):
        there_and_back = [(1, "b"), (1, "a")]
        self.assertEqual(cut_short(BARRED, "aa", there_and_back * 500), [])
        self.assertEqual(cut_short(BARRED, "aa", there_and_back * 3 + [(1, "c")]), [(1, "c")])
        self.assertEqual(cut_short(BARRED, "aa", [(1, "b"), (1, "c"), (1, "b"), (1, "c"), (0, "b")]),
                         [(1, "b"), (1, "c"), (0, "b")])

    def test_rings_are_left_out_in_the_order_of_the_way(self):
        yard = Yard.even(2, 1)
        # aa ab ac bc ba ac would be two rings that overlap: the one that begins first is left out.
        row = [(1, "b"), (1, "c"), (0, "b"), (0, "a"), (1, "b"), (1, "a"), (1, "c"), (0, "b")]
        self.assertEqual(all_behind(yard, "aa", row), ["aa", "ab", "ac", "bc", "ac", "ab", "aa", "ac", "bc"])
        self.assertEqual(cut_short(yard, "aa", row), [(1, "c"), (0, "b")])
        self.assertEqual(cut_short(yard, "ab", row[1:]), [(1, "a"), (1, "c"), (0, "b")])


class RowBackTest(RefusalCase):
    def test_the_moves_lead_back_and_cost_the_same_backwards(self):
        for yard, start, row, passed in walks():
            for told in (row, tuple(row)):
                back = row_back(yard, start, told)
                expected = [(crate, here[crate]) for here, (crate, _) in zip(passed, row)][::-1]
                self.assertEqual(back, expected)
                self.assertEqual(all_behind(yard.backwards(), passed[-1], back), passed[::-1])
                self.assertEqual(row_cost(yard.backwards(), passed[-1], back), row_cost(yard, start, row))
                self.assertEqual(row_back(yard.backwards(), passed[-1], back), row)

    def test_barred_ways_back_are_told_as_well(self):
        yard = Yard([[1, None, None, None, None, None]])
        self.assertEqual(row_back(yard, "a", [(0, "b")]), [(0, "a")])
        self.assertEqual(first_bad(yard, "b", [(0, "a")]), 0)


class CopiesTest(RefusalCase):
    def test_what_was_handed_in_or_returned_may_be_changed(self):
        yard = random_yard(3, 3, [1, 2, 3])
        row, passed = walk(yard, "abc", 20, 4)
        for call, others in {**OF_ROWS, row_of_largest: (3,)}.items():
            if call not in (behind, row_cost):
                with self.subTest(call=call.__name__):
                    handed = list(row)
                    told = call(yard, "abc", handed, *others)
                    self.assertIs(type(told), list)
                    self.assertIsNot(told, handed)
                    kept = list(told)
                    handed.clear()
                    self.assertEqual(told, kept)
                    told.clear()
                    told.append((0, "a"))
                    self.assertEqual(call(yard, "abc", row, *others), kept)
        self.assertEqual(row, walk(yard, "abc", 20, 4)[0])

    def test_a_row_that_stays_as_it_is_is_a_new_list(self):
        for row in (ROW, []):
            for call, others in ((cut_short, ()), (row_of_largest, (2,))):
                told = call(BARRED, "aa", row, *others)
                self.assertEqual(told, row)
                self.assertIsNot(told, row)

    def test_equal_rows_have_equal_answers(self):
        for yard, start, row, _ in walks():
            for call, others in OF_ROWS.items():
                told = [len(yard)] if others else []
                self.assertEqual(call(yard, start, row, *told), call(yard, start, tuple(row), *told))

    def test_the_kinds_of_what_is_returned(self):
        for call in (row_of_largest, cut_short, row_back):
            for move in call(BARRED, "aa", ROW, *OF_ROWS[call]):
                self.assertIs(type(move), tuple)
                self.assertEqual([type(part) for part in move], [int, str])
        for call in (all_behind, row_crates, row_of_largest, cut_short, row_back):
            self.assertIs(type(call(BARRED, "aa", tuple(ROW), *OF_ROWS[call])), list)

    def test_rows_do_not_change_the_yard(self):
        before = BARRED.rows()
        for call, others in OF_ROWS.items():
            call(BARRED, "aa", ROW, *others)
        self.assertEqual(BARRED.rows(), before)
        self.assertEqual(allowed(BARRED, "aa"), [(1, "b"), (1, "c")])


class DocumentTest(RefusalCase):
    def test_the_examples_of_the_interface(self):
        yard = Yard([[5, 6, 7, None, 8, 9], [1, 2, 3, 4, None, 6]])
        row = [(1, "b"), (1, "c"), (0, "b"), (1, "b")]
        self.assertEqual(
            [behind(yard, "aa", row), all_behind(yard, "aa", row), row_cost(yard, "aa", row),
             row_crates(yard, "aa", row), row_back(yard, "aa", row)],
            ["bb", ["aa", "ab", "ac", "bc", "bb"], 16, [1, 3], [(1, "c"), (0, "a"), (1, "b"), (1, "a")]],
        )
        self.assertEqual(
            [first_bad(yard, "aa", [(1, "b"), (0, "b")]), is_row(yard, "aa", [(1, "c"), (1, "a")]),
             cut_short(yard, "aa", [(1, "b"), (1, "a"), (1, "c")])],
            [1, False, [(1, "c")]],
        )


if __name__ == "__main__":
    unittest.main()
