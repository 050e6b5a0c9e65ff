"""Tests of lots and of what can be come to: promises 5 to 10, and 101 to 104."""

import itertools
import unittest

from cratetowers.costs import least
from cratetowers.errors import InvalidArrangement, InvalidCount, InvalidLot, InvalidPattern, InvalidYard
from cratetowers.lots import Lot, both_ways, come_from, come_to, come_to_any, nearest_lot
from cratetowers.patterns import fits, how_many_fit, how_many_nearest, nearest
from cratetowers.yards import Yard
from tests.helpers import (
    PlainSearch, RefusalCase, all_arrangements, long_yard, no_arrangements, no_patterns, no_yards, odd_values,
    random_patterns, random_yard, searched_yards,
)

YARD = Yard([[5, 6, None, None, None, None], [1, 2, 3, 4, None, 6]])
START60 = "abcacbbacabccba" * 4
GOAL60 = "cabbacacbcbaabc" * 4
EMPTY2 = Lot.every(YARD).without(Lot.every(YARD))
ROUND = [1, None, None, 1, 1, None]


def members(lot):
    return lot.first(lot.count())


def reached_yards():
    """Yards of one to three crates with no, few and many bars."""
    yield from searched_yards(3)
    for count in (1, 2, 3):
        for seed in range(5):
            yield random_yard(seed, count, [1, 2, 3, None])
            yield random_yard(seed, count, [1, None])
        yield Yard([ROUND] * count)
        yield Yard([[None] * 6] * count)


def lots_of(yard):
    """Lots of a yard made in many ways, with the sets of their arrangements."""
    every = all_arrangements(yard)
    chosen = random_patterns(4, len(yard), 3)
    lots = [Lot.every(yard), *[Lot.of_pattern(yard, pattern) for pattern in chosen]]
    lots += [come_to(yard, every[1]), come_from(yard, every[-1]), nearest_lot(yard, every[0], chosen[0])]
    lots += [lots[0].without(lots[1]), lots[1].either(lots[2]), lots[2].both(lots[3]), lots[0].without(lots[0])]
    return [(lot, set(members(lot))) for lot in lots]


class RefusalsTest(RefusalCase):
    def test_wrong_yards_are_refused_ahead_of_all_else(self):
        for value in no_yards():
            self.assert_refused(InvalidYard, value, Lot.every, value)
            self.assert_refused(InvalidYard, value, nearest_lot, value, None, None)
            for call in (Lot.of_pattern, come_to, come_from, both_ways, come_to_any):
                self.assert_refused(InvalidYard, value, call, value, None)

    def test_wrong_patterns_are_refused(self):
        for value in no_patterns(2):
            self.assert_refused(InvalidPattern, value, Lot.of_pattern, YARD, value)
            self.assert_refused(InvalidPattern, value, come_to_any, YARD, value)
            self.assert_refused(InvalidPattern, value, nearest_lot, YARD, "aa", value)

    def test_wrong_arrangements_are_refused(self):
        for value in no_arrangements(2):
            for call in (come_to, come_from, both_ways):
                self.assert_refused(InvalidArrangement, value, call, YARD, value)
            self.assert_refused(InvalidArrangement, value, nearest_lot, YARD, value, ["x", "y"])

    def test_wrong_numbers_are_refused(self):
        for lot in (Lot.every(YARD), come_to(YARD, "bc"), EMPTY2):
            wrong = [value for value in odd_values() if value != 0 or isinstance(value, bool)]
            for value in [*wrong, lot.count(), lot.count() + 1, 10 ** 80, 3 ** 60, "0", [0], (0,)]:
                self.assert_refused(InvalidCount, value, lot.at, value)
        self.assert_refused(InvalidCount, 0, EMPTY2.at, 0)

    def test_wrong_counts_are_refused(self):
        for lot in (Lot.every(YARD), come_to(YARD, "bc"), EMPTY2):
            for value in [*odd_values(), lot.count() + 1, 1000, 1001, 10 ** 80, "0", [0], (0,)]:
                self.assert_refused(InvalidCount, value, lot.first, value)

    def test_wrong_lots_are_refused_ahead_of_other_numbers_of_crates(self):
        lots = [Lot.every(YARD), EMPTY2, come_to(YARD, "bc")]
        for lot in lots:
            for call in (lot.both, lot.either, lot.without, lot.within):
                for value in [*odd_values(), 0, "aa", members(lot), ROUND, YARD]:
                    self.assert_refused(InvalidLot, value, call, value)
                for count in (1, 3, 60):
                    self.assert_unlike(call, Lot.every(Yard.even(count, 1)))

    def test_arguments_by_their_names(self):
        every = Lot.every(yard=YARD)
        some = Lot.of_pattern(pattern=["ab", "c"], yard=YARD)
        self.assertEqual(members(some), ["ac", "bc"])
        self.assertEqual([every.at(number=5), every.number(arrangement="bc")], ["bc", 5])
        self.assertEqual(every.first(count=2), ["aa", "ab"])
        for call in (every.both, some.either, every.without, some.within):
            self.assertEqual(call(other=some), call(some))
        self.assertEqual(come_to(start="bc", yard=YARD), come_to(YARD, "bc"))
        self.assertEqual(come_from(goal="bc", yard=YARD), come_from(YARD, "bc"))
        self.assertEqual(both_ways(start="bc", yard=YARD), both_ways(YARD, "bc"))
        self.assertEqual(come_to_any(pattern=["bc", "a"], yard=YARD), come_to_any(YARD, ["bc", "a"]))
        self.assertEqual(nearest_lot(pattern=["bc", "a"], start="aa", yard=YARD), nearest_lot(YARD, "aa", ["bc", "a"]))


class LotsTest(unittest.TestCase):
    def test_all_arrangements(self):
        for count in range(1, 5):
            yard = Yard.even(count, 2)
            lot = Lot.every(yard)
            self.assertEqual([lot.crates, lot.count()], [count, 3 ** count])
            self.assertEqual(members(lot), all_arrangements(yard))

    def test_arrangements_that_fit_a_pattern(self):
        for count in range(1, 5):
            yard = Yard.even(count, 2)
            for pattern in random_patterns(1, count, 20):
                lot = Lot.of_pattern(yard, pattern)
                self.assertEqual([lot.crates, lot.count()], [count, how_many_fit(yard, pattern)])
                self.assertEqual(members(lot), [text for text in all_arrangements(yard) if fits(yard, pattern, text)])
                self.assertEqual(Lot.of_pattern(yard, tuple(pattern)), lot)

    def test_any_value_in_a_lot(self):
        for yard in (YARD, Yard.even(2, 1), Yard.even(3, 1)):
            for lot, inside in lots_of(yard):
                for value in no_arrangements(len(yard)):
                    self.assertIs(value in lot, False)
                    self.assertIsNone(lot.number(value))
                for value in [*all_arrangements(yard), *inside]:
                    self.assertIs(value in lot, value in inside)
                    self.assertIs(value not in lot, value not in inside)
                self.assertFalse(lot in lot)

    def test_order(self):
        for yard in (YARD, Yard.even(1, 1), Yard.even(3, 1), random_yard(5, 4, [1, 2, None])):
            for lot, inside in lots_of(yard):
                told = sorted(inside)
                self.assertEqual(lot.count(), len(told))
                self.assertEqual([lot.at(number) for number in range(lot.count())], told)
                self.assertEqual([lot.number(arrangement) for arrangement in told], list(range(len(told))))
                for arrangement in set(all_arrangements(yard)) - inside:
                    self.assertIsNone(lot.number(arrangement))
                for count in {0, min(1, len(told)), len(told) // 2, len(told)}:
                    self.assertEqual(lot.first(count), told[:count])

    def test_at_most_1000_are_listed(self):
        lot = Lot.every(Yard.even(7, 1))
        self.assertEqual(lot.first(1000), all_arrangements(Yard.even(7, 1))[:1000])
        self.assertEqual(lot.first(0), [])
        for count in (1001, 2187):
            with self.assertRaises(InvalidCount):
                lot.first(count)
        lot = Lot.of_pattern(Yard.even(60, 1), ["ab"] * 60)
        self.assertEqual(lot.first(1000), sorted(lot.first(1000)))
        self.assertEqual(lot.first(3), ["a" * 60, "a" * 59 + "b", "a" * 58 + "ba"])
        self.assertEqual([lot.number(text) for text in lot.first(1000)], list(range(1000)))

    def test_put_together(self):
        for yard in (YARD, Yard.even(1, 1), random_yard(3, 3, [1, 2, None])):
            for (one, inside), (other, there) in itertools.product(lots_of(yard), repeat=2):
                for lot, right in [
                    (one.both(other), inside & there), (one.either(other), inside | there),
                    (one.without(other), inside - there),
                ]:
                    self.assertIs(type(lot), Lot)
                    self.assertEqual([lot.crates, lot.count()], [len(yard), len(right)])
                    self.assertEqual(members(lot), sorted(right))
                self.assertIs(one.within(other), inside <= there)

    def test_put_together_many_times(self):
        yard = Yard.even(4, 1)
        lots = [Lot.of_pattern(yard, pattern) for pattern in random_patterns(2, 4, 30)]
        lot, inside = Lot.every(yard), set(all_arrangements(yard))
        for at, other in enumerate(lots):
            there = set(members(other))
            if at % 3 == 0:
                lot, inside = lot.without(other), inside - there
            elif at % 3 == 1:
                lot, inside = lot.either(other), inside | there
            else:
                lot, inside = lot.both(other.either(lots[0])), inside & (there | set(members(lots[0])))
            self.assertEqual(members(lot), sorted(inside))

    def test_lots_of_other_yards_with_as_many_crates(self):
        one = come_to(YARD, "bc")
        other = Lot.every(Yard.even(2, 7))
        self.assertEqual(one.both(other), one)
        self.assertIs(one.within(other), True)
        self.assertIs(other.within(one), False)


class InTest(unittest.TestCase):
    """What `in` tells of each kind of value, by lots of few crates and of sixty."""

    def setUp(self):
        self.few = come_to(YARD, "bc")
        self.many = Lot.of_pattern(Yard.even(60, 1), ["ab", "c", "abc"] * 20)
        empty60 = Lot.every(Yard.even(60, 1)).without(Lot.every(Yard.even(60, 1)))
        self.empty = [EMPTY2, empty60, self.few.both(Lot.of_pattern(YARD, ["ac", "abc"])), self.many.without(self.many)]

    def assert_none_in(self, lot, values):
        for value in values:
            with self.subTest(crates=lot.crates, value=value):
                self.assertIs(value in lot, False)
                self.assertIs(value not in lot, True)

    def test_arrangements_of_the_lot(self):
        for lot, arrangements in [
            (self.few, ["ba", "bb", "bc"]),
            (self.many, ["aca" * 20, "bcc" * 20, "acb" * 19 + "bca", "bca" + "acc" * 19]),
        ]:
            for arrangement in arrangements:
                self.assertIs(arrangement in lot, True)
                self.assertIs(arrangement not in lot, False)

    def test_arrangements_that_are_not_in_it(self):
        self.assert_none_in(self.few, ["aa", "ab", "ac", "ca", "cb", "cc"])
        outside = ["c" * 60, "aba" * 20, "cca" + "aca" * 19, "aca" * 19 + "cca", "aca" * 19 + "aaa"]
        self.assert_none_in(self.many, outside)

    def test_texts_of_another_length(self):
        self.assert_none_in(self.few, ["", "b", "bbb", "ba" * 100])
        self.assert_none_in(self.many, ["", "a", "aca" * 19 + "ac", "aca" * 20 + "a", "aca" * 40])

    def test_texts_with_other_letters(self):
        self.assert_none_in(self.few, ["bd", "xb", "BB", "b ", " b", "b\n", "b1", "01", "--", "  "])
        self.assert_none_in(self.many, ["aca" * 19 + "acd", "xca" + "aca" * 19, "ACA" * 20, "aca" * 10 + "ac " * 10])
        self.assert_none_in(self.many, ["aca" * 9 + "a-a" + "aca" * 10, " " * 60])

    def test_values_that_are_no_text(self):
        for lot in (self.few, self.many):
            values = [None, True, False, 0, 1, lot.count() - 1, lot, lot.first(1), tuple(lot.first(2)), YARD]
            self.assert_none_in(lot, [*values, list(lot.at(0)), tuple(lot.at(0)), {"a": 1, "b": 2}, [], (), {}])

    def test_an_empty_lot(self):
        for lot in self.empty:
            self.assertEqual(lot.count(), 0)
            arrangements = ["a" * lot.crates, ("bc" * 30)[:lot.crates], ("cab" * 20)[:lot.crates]]
            others = ["", "a", "b" * (lot.crates + 1), "d" * lot.crates, None, 0, [], lot, ["a"] * lot.crates]
            self.assert_none_in(lot, [*arrangements, *others])


class EqualityTest(unittest.TestCase):
    def test_lots_are_equal_however_they_were_made(self):
        for yard in (YARD, Yard.even(2, 1), Yard.even(3, 1), random_yard(1, 3, [1, None])):
            for (one, inside), (other, there) in itertools.product(lots_of(yard), repeat=2):
                self.assertIs(one == other, inside == there)
                self.assertIs(one != other, inside != there)
                self.assertEqual(one.both(other), other.both(one))
                self.assertEqual(one.without(other).either(one.both(other)), one)

    def test_lots_put_together_of_single_arrangements(self):
        for yard in (Yard.even(2, 1), Yard.even(3, 1)):
            every = all_arrangements(yard)
            for chosen in (every, every[::2], every[1::3], every[:4], []):
                lots = []
                for order in (chosen, chosen[::-1]):
                    lot = Lot.every(yard).without(Lot.every(yard))
                    for arrangement in order:
                        lot = lot.either(Lot.of_pattern(yard, list(arrangement)))
                    lots.append(lot)
                rest = Lot.every(yard)
                for arrangement in set(every) - set(chosen):
                    rest = rest.without(Lot.of_pattern(yard, list(arrangement)))
                self.assertEqual(lots, [rest, rest])

    def test_a_lot_equals_only_lots_of_as_many_crates(self):
        empty = [Lot.every(Yard.even(count, 1)).without(Lot.every(Yard.even(count, 1))) for count in (1, 2, 60)]
        for one, other in itertools.combinations(empty, 2):
            self.assertFalse(one == other)
            self.assertTrue(one != other)
        for value in [*odd_values(), "aa", ["aa"], YARD, 0]:
            self.assertFalse(EMPTY2 == value)
            self.assertFalse(Lot.every(YARD) == value)
            self.assertFalse(value == Lot.every(YARD))

    def test_lots_are_copies_of_the_patterns(self):
        pattern = ["ab", "c"]
        lot = Lot.of_pattern(YARD, pattern)
        reached = come_to_any(YARD, pattern)
        told = (members(lot), members(reached))
        pattern[0] = "c"
        pattern.append("a")
        self.assertEqual((members(lot), members(reached)), told)
        lot.first(2)[0] = "x"
        self.assertEqual(lot.first(2), ["ac", "bc"])

    def test_kinds(self):
        lot = come_to(YARD, "bc")
        self.assertEqual([type(value) for value in (lot.crates, lot.count(), lot.number("bb"))], [int] * 3)
        self.assertIs(type(lot.at(0)), str)
        self.assertIs(type(lot.first(1)), list)


class ReachedTest(unittest.TestCase):
    def test_what_can_be_come_to(self):
        for yard in reached_yards():
            search = PlainSearch(yard)
            every = all_arrangements(yard)
            for here in every[::{1: 1, 2: 2, 3: 5}[len(yard)]]:
                with self.subTest(yard=str(yard), here=here):
                    ahead = [there for there in every if search.cost(here, there) is not None]
                    back = [there for there in every if search.cost(there, here) is not None]
                    self.assertEqual(members(come_to(yard, here)), ahead)
                    self.assertEqual(members(come_from(yard, here)), back)
                    self.assertEqual(members(both_ways(yard, here)), [there for there in ahead if there in back])

    def test_from_a_pattern(self):
        for yard in reached_yards():
            search = PlainSearch(yard)
            every = all_arrangements(yard)
            for pattern in random_patterns(6, len(yard), 8):
                with self.subTest(yard=str(yard), pattern=pattern):
                    starts = [here for here in every if fits(yard, pattern, here)]
                    right = [there for there in every if any(search.cost(here, there) is not None for here in starts)]
                    self.assertEqual(members(come_to_any(yard, pattern)), right)

    def test_the_nearest_ones(self):
        for yard in reached_yards():
            search = PlainSearch(yard)
            every = all_arrangements(yard)
            for pattern in random_patterns(7, len(yard), 6):
                for here in every[::{1: 1, 2: 2, 3: 7}[len(yard)]]:
                    with self.subTest(yard=str(yard), pattern=pattern, here=here):
                        costs = {there: search.cost(here, there) for there in every if fits(yard, pattern, there)}
                        known = [cost for cost in costs.values() if cost is not None]
                        right = [there for there in costs if known and costs[there] == min(known)]
                        self.assertEqual(members(nearest_lot(yard, here, pattern)), right)

    def test_what_can_be_come_to_from_there_is_within(self):
        for yard in reached_yards():
            lot = come_to(yard, "c" * len(yard))
            for arrangement in members(lot)[::4]:
                self.assertIs(come_to(yard, arrangement).within(lot), True)
                self.assertIs(come_from(yard, "c" * len(yard)).within(come_from(yard, arrangement)), True)

    def test_without_bars_all_can_be_come_to(self):
        for count in (1, 2, 8, 60):
            yard = Yard.even(count, 5)
            for start in ("a" * count, ("abc" * count)[:count]):
                for call in (come_to, come_from, both_ways):
                    self.assertEqual(call(yard, start), Lot.every(yard))
                self.assertEqual(come_to_any(yard, list(start)), Lot.every(yard))

    def test_with_all_ways_barred_none_can_be_come_to(self):
        for count in (1, 2, 8, 60):
            yard = Yard([[None] * 6] * count)
            start = ("bca" * count)[:count]
            for call in (come_to, come_from, both_ways):
                self.assertEqual(members(call(yard, start)), [start])
            pattern = ["ab", "c"] * count
            self.assertEqual(come_to_any(yard, pattern[:count]), Lot.of_pattern(yard, pattern[:count]))


class SixtyCratesTest(unittest.TestCase):
    def test_all_of_them(self):
        lot = Lot.every(Yard.even(60, 1))
        self.assertEqual(lot.count(), 3 ** 60)
        self.assertEqual([lot.at(0), lot.at(3 ** 60 - 1), lot.at(1)], ["a" * 60, "c" * 60, "a" * 59 + "b"])
        number = lot.number(START60)
        self.assertEqual([lot.at(number), lot.at(number + 1) > START60], [START60, True])
        self.assertIs(START60 in lot, True)
        self.assertIs(START60[1:] in lot, False)

    def test_with_bars(self):
        for seed in range(6):
            yard = random_yard(seed, 60, [1, 2, 3, 4, 5, 6, 7, None])
            lot = come_to(yard, START60)
            for number in [0, lot.count() // 3, lot.count() - 1]:
                arrangement = lot.at(number)
                self.assertIsNotNone(least(yard, START60, arrangement))
                self.assertIn(START60, come_from(yard, arrangement))
                self.assertEqual(lot.number(arrangement), number)
            rest = Lot.every(yard).without(lot)
            self.assertEqual(rest.count() + lot.count(), 3 ** 60)
            for number in [0, rest.count() // 2, rest.count() - 1]:
                if rest.count():
                    self.assertIsNone(least(yard, START60, rest.at(number)))

    def test_the_nearest_ones(self):
        for yard in (long_yard(60), Yard.even(60, 1), Yard([[2, 1, 1, 2, 1, 1]] * 60)):
            for pattern in random_patterns(11, 60, 4):
                lot = nearest_lot(yard, START60, pattern)
                self.assertEqual(lot.count(), how_many_nearest(yard, START60, pattern))
                self.assertEqual(lot.at(0), nearest(yard, START60, pattern)[1])
                self.assertIs(lot.within(Lot.of_pattern(yard, pattern)), True)
                last = lot.at(lot.count() - 1)
                self.assertEqual(least(yard, START60, last), nearest(yard, START60, pattern)[0])

    def test_put_together_of_six(self):
        yard = random_yard(4, 60, [1, 2, 3, 4, None])
        other = random_yard(9, 60, [1, 2, 3, 4, 5, 6, None])
        patterns = random_patterns(12, 60, 2)
        one = come_to(yard, START60).either(come_from(other, GOAL60))
        two = Lot.of_pattern(yard, ["ab", "abc"] * 30).either(nearest_lot(Yard.even(60, 1), START60, patterns[0]))
        three = come_to_any(other, ["abc", "bc"] * 30).without(come_to_any(yard, patterns[1]))
        lot = one.both(two).either(three)
        self.assertEqual(lot, three.either(two.both(one)))
        self.assertEqual(lot.without(three), one.both(two).without(three))
        self.assertEqual(
            lot.count(), one.both(two).count() + three.count() - one.both(two).both(three).count()
        )
        for number in range(0, lot.count(), lot.count() // 7 + 1):
            arrangement = lot.at(number)
            self.assertEqual(lot.number(arrangement), number)
            self.assertTrue((arrangement in one and arrangement in two) or arrangement in three)


class ExamplesTest(RefusalCase):
    def test_the_examples_of_the_document(self):
        told = come_to(YARD, "bc")
        self.assertEqual(
            [told.count(), told.first(3), "ba" in told, "ab" in told, come_from(YARD, "bc").count(),
             both_ways(YARD, "bc").count()],
            [3, ["ba", "bb", "bc"], True, False, 6, 3],
        )
        some = Lot.of_pattern(YARD, ["ab", "c"])
        self.assertEqual(
            [some.first(2), some.both(told).first(1), told.without(some).count(), told.number("bc"),
             Lot.every(Yard.even(60, 1)).count() == 3 ** 60],
            [["ac", "bc"], ["bc"], 2, 2, True],
        )
        self.assertEqual(
            [nearest_lot(YARD, "aa", ["bc", "abc"]).first(1), come_to_any(YARD, ["bc", "a"]).count(),
             some.within(told)],
            [["bc"], 6, False],
        )
        self.assert_refused(InvalidCount, 3, told.at, 3)


if __name__ == "__main__":
    unittest.main()
