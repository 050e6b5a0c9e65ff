"""Times of single calls, each with four times as much as is asked, so that a busy machine fails nothing."""

import timeit
import unittest

from cratetowers.costs import from_towers, is_cost_paper, least, paper, shown_cost, to_towers
from cratetowers.levels import is_paper, straight_ways, tables, tower_cost
from cratetowers.rows import (
    all_behind, behind, cut_short, first_bad, is_row, row_back, row_cost, row_crates, row_of_largest,
)
from cratetowers.ways import Way
from cratetowers.yards import Yard


class SpeedCase(unittest.TestCase):
    def assert_quick(self, asked, call):
        """Ask for a call in at most four times so many milliseconds, the quickest one of many."""
        best = min(timeit.repeat(call, number=1, repeat=20))
        self.assertLessEqual(best * 1000, 4 * asked)


class RowsTest(SpeedCase):
    def test_rows_of_ninety_nine_moves(self):
        yard = Yard.even(14, 1)
        start = "a" * 14
        row = [(13, "b"), (13, "c"), (13, "a")] * 33
        for asked, call in [
            (0.4, row_cost), (0.4, row_back), (0.3, all_behind), (0.3, behind), (0.3, cut_short), (0.2, row_crates),
            (0.16, first_bad), (0.16, is_row),
        ]:
            with self.subTest(call=call.__name__):
                self.assert_quick(asked, lambda: call(yard, start, row))
        self.assert_quick(0.2, lambda: row_of_largest(yard, start, row, 14))

    def test_a_row_with_a_bad_move_at_its_end(self):
        yard = Yard.even(14, 1)
        start = "a" * 14
        row = [(13, "b"), (13, "c"), (13, "a")] * 33 + [(0, "b")]
        self.assertEqual(first_bad(yard, start, row), 99)
        self.assert_quick(0.16, lambda: first_bad(yard, start, row))
        self.assert_quick(0.16, lambda: is_row(yard, start, row))


class CostsTest(SpeedCase):
    def test_sixty_crates(self):
        for rows in ([[1] * 6] * 60, [[10 ** 30 - 1, None, 10 ** 29, 10 ** 29, 10 ** 30 - 1, 10 ** 29]] * 60):
            start, goal = "a" * 60, "bc" * 30
            told = paper(Yard(rows), start, goal)
            for asked, call in [
                (2, lambda yard: Way(yard, start, goal)),
                (1.18, lambda yard: is_cost_paper(yard, start, goal, told)),
                (1.08, lambda yard: shown_cost(yard, start, goal, told)),
                (1, lambda yard: paper(yard, start, goal)),
                (0.9, lambda yard: least(yard, start, goal)),
                (0.86, straight_ways),
                (0.64, lambda yard: tower_cost(yard, "ab")),
                (0.6, lambda yard: to_towers(yard, start)),
                (0.6, lambda yard: from_towers(yard, goal)),
                (0.6, tables),
                (0.46, lambda yard: is_paper(yard, told[0])),
            ]:
                # A yard keeps what it has worked out, so a new one is asked each time.
                self.assert_quick(asked, lambda: call(Yard(rows)))

    def test_four_crates(self):
        self.assert_quick(0.05, lambda: least(Yard.even(4, 1), "abca", "ccba"))


if __name__ == "__main__":
    unittest.main()
