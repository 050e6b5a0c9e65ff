"""What the tests share."""

import unittest

from cratetowers.errors import CratesError, InvalidYard, NoWay
from cratetowers.yards import Yard

# Unlike prices at all places, so that a price taken from a wrong one shows.
ROWS = [[11, 12, 13, 14, 15, 16], [21, None, 23, 24, 25, 26], [31, 32, 33, None, None, 36]]


def odd_values():
    """Values of all kinds, none of them an integer from 0 on, a place, a way or the like."""
    return [
        None, True, False, -1, -10 ** 79,
        "", " ", "\n", "x", "d", "A", "1", "0", "-", "aa aa", "AB", "ad", "da", "ab ", " ab", "a-b",
        [], (), {}, [[]], [()], ["a"], ["ab"], ("a",), ("ab",), ["a", "b", "c"], [1], (1,), [None],
        {"a": 1}, {1: "ab"}, {"ab": "ab", "b": [1]}, [[[[["a"]]]]], [0] * 100, [None] * 6, (None,) * 6,
        Yard.even(2, 1), [Yard.even(2, 1)], InvalidYard("ab"), NoWay("a", "b"), CratesError("a"),
    ]


def prices_at(seed):
    """Six prices and bars that differ from seed to seed, the same ones at each run."""
    return [None if (seed + place) * 7 % 5 == 0 else (seed * 31 + place * 17) % 97 + 1 for place in range(6)]


class RefusalCase(unittest.TestCase):
    """A test case that can ask for exceptions with their very values."""

    def assert_refused(self, kind, value, call, *args, **names):
        before = repr((args, names))
        with self.assertRaises(CratesError) as caught:
            call(*args, **names)
        self.assertIs(type(caught.exception), kind)
        self.assertIs(caught.exception.value, value)
        self.assertEqual(repr((args, names)), before)
