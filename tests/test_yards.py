"""Tests of places, ways, prices and yards: promises 2, 3, 7 to 10, and 21 to 25."""

import itertools
import unittest

from cratetowers import yards
from cratetowers.errors import (
    InvalidCount, InvalidCrate, InvalidPlace, InvalidPrice, InvalidText, InvalidWay, InvalidYard,
)
from cratetowers.yards import PLACES, WAYS, Yard, is_place, is_price, is_way, third
from tests.helpers import ROWS, RefusalCase, odd_values, prices_at

THIRTY = 10 ** 30 - 1
EIGHTY = 10 ** 80 - 1
BAD_PRICES = [0, -1, -THIRTY, True, False, "1", "", "-", [], [1], (1,), {}, {1: 1}, Yard.even(1, 1), InvalidPrice(1)]
NEAR_WAYS = ["AB", "aB", "aa", "bb", "cc", "a", "abc", "ab ", " ab", "", "ad", "da", "ba\n", "a b", "abab"]
NEAR_PLACES = ["A", "d", "ab", "abc", "", " ", "a ", " a", "a\n", "bc", "0"]


def long_rows(count):
    """The rows of a yard with so many crates of which no two are alike."""
    return [[10 * crate + place + 1 if (crate + place) % 4 else None for place in range(6)] for crate in range(count)]


def no_prices():
    return [value for value in odd_values() if value is not None] + BAD_PRICES


class PlacesAndWaysTest(RefusalCase):
    def test_the_constants(self):
        self.assertEqual(PLACES, ("a", "b", "c"))
        self.assertEqual(WAYS, ("ab", "ac", "ba", "bc", "ca", "cb"))

    def test_places(self):
        for place in "abc":
            self.assertIs(is_place(place), True)
        self.assertIs(is_place(value="b"), True)
        for value in [*odd_values(), *NEAR_PLACES, *WAYS, 0, 1, PLACES, ["b"]]:
            with self.subTest(value=value):
                self.assertIs(is_place(value), False)

    def test_ways(self):
        for way in ("ab", "ac", "ba", "bc", "ca", "cb"):
            self.assertIs(is_way(way), True)
        self.assertIs(is_way(value="cb"), True)
        for value in [*odd_values(), *NEAR_WAYS, *PLACES, 0, 1, WAYS, ("a", "b"), ["a", "b"]]:
            with self.subTest(value=value):
                self.assertIs(is_way(value), False)

    def test_prices(self):
        for value in (1, 2, 10, THIRTY, EIGHTY):
            self.assertIs(is_price(value), True)
        self.assertIs(is_price(value=7), True)
        for value in [*odd_values(), *BAD_PRICES, -EIGHTY]:
            with self.subTest(value=value):
                self.assertIs(is_price(value), False)

    def test_third_is_the_place_that_is_not_in_the_way(self):
        thirds = {way: third(way) for way in WAYS}
        self.assertEqual(thirds, {"ab": "c", "ac": "b", "ba": "c", "bc": "a", "ca": "b", "cb": "a"})
        self.assertEqual(third(way="ca"), "b")

    def test_third_refuses_all_but_ways(self):
        for value in [*odd_values(), *NEAR_WAYS, *PLACES, 0, 1, WAYS]:
            with self.subTest(value=value):
                self.assert_refused(InvalidWay, value, third, value)
                self.assert_refused(InvalidWay, value, third, way=value)


class YardTest(RefusalCase):
    def test_rows_length_and_prices_are_those_handed_in(self):
        yard = Yard(ROWS)
        self.assertEqual(yard.rows(), ROWS)
        self.assertEqual(len(yard), 3)
        for crate, row in enumerate(ROWS):
            for way, price in zip(WAYS, row):
                self.assertEqual(yard.price(crate, way), price)
                self.assertEqual(yard.price(crate=crate, way=way), price)
        self.assertEqual(Yard(rows=ROWS), yard)

    def test_yards_of_one_and_of_sixty_crates(self):
        for count in (1, 2, 59, 60):
            with self.subTest(count=count):
                rows = long_rows(count)
                yard = Yard(rows)
                self.assertEqual(len(yard), count)
                self.assertEqual(yard.rows(), rows)
                self.assertEqual(yard.price(count - 1, "cb"), rows[-1][5])

    def test_yards_of_none_and_of_more_than_sixty_crates_are_refused(self):
        for rows in ([], (), long_rows(61), long_rows(100), tuple(long_rows(61))):
            self.assert_refused(InvalidYard, rows, Yard, rows)

    def test_prices_of_many_figures_and_all_barred(self):
        rows = [[THIRTY, THIRTY - 1, 1, 10 ** 29, None, 2 ** 64], [None] * 6]
        self.assertEqual(Yard(rows).rows(), rows)
        self.assertEqual(Yard([[EIGHTY] * 6]).price(0, "ab"), EIGHTY)
        self.assertIsNone(Yard([[None] * 6]).price(0, "ab"))

    def test_tuples_stand_for_lists(self):
        for rows in (tuple(tuple(row) for row in ROWS), tuple(ROWS), [tuple(row) for row in ROWS]):
            yard = Yard(rows)
            self.assertEqual(yard, Yard(ROWS))
            self.assertEqual(yard.rows(), ROWS)
            self.assertEqual([type(row) for row in yard.rows()], [list] * 3)

    def test_what_is_no_list_of_rows_is_refused(self):
        for value in [*odd_values(), 0, 1, "1 1 1 1 1 1", {0: [1] * 6}, {"rows": ROWS}, [1] * 6, Yard(ROWS)]:
            with self.subTest(value=value):
                self.assert_refused(InvalidYard, value, Yard, value)
                self.assert_refused(InvalidYard, value, Yard, rows=value)

    def test_bad_rows_are_refused_at_each_place(self):
        bad_rows = [[], [1] * 5, [1] * 7, (1,) * 5, (1,) * 7, None, 1, "111111", "ab", {0: 1}, Yard.even(6, 1)]
        for bad in [*bad_rows, dict.fromkeys(range(6), 1), [[1] * 6], [[1]] * 6]:
            for at in range(3):
                with self.subTest(bad=bad, at=at):
                    rows = [list(row) for row in ROWS]
                    rows[at] = bad
                    self.assert_refused(InvalidYard, rows, Yard, rows)

    def test_bad_prices_are_refused_at_each_place(self):
        for bad in no_prices():
            for crate, column in ((0, 0), (1, 3), (2, 5)):
                with self.subTest(bad=bad, crate=crate):
                    rows = [list(row) for row in ROWS]
                    rows[crate][column] = bad
                    self.assert_refused(InvalidYard, rows, Yard, rows)

    def test_changes_of_the_lists_handed_in_do_not_reach_the_yard(self):
        rows = [list(row) for row in ROWS]
        yard = Yard(rows)
        rows[0][0] = 99
        rows[1].append(5)
        rows.append([1] * 6)
        self.assertEqual(yard.rows(), ROWS)
        self.assertEqual(yard, Yard(ROWS))
        inner = [1, 2, 3, 4, 5, 6]
        held = Yard((inner, inner))
        inner[0] = 50
        self.assertEqual(held.rows(), [[1, 2, 3, 4, 5, 6]] * 2)

    def test_the_lists_handed_in_stay_as_they_are(self):
        rows = [list(row) for row in ROWS]
        inner = list(rows)
        yard = Yard(rows)
        yard.with_price(0, "ab", 5)
        yard.rows()[0][0] = 8
        self.assertEqual(rows, ROWS)
        self.assertTrue(all(now is then for now, then in zip(rows, inner)))

    def test_changes_of_returned_lists_do_not_reach_the_yard(self):
        yard = Yard(ROWS)
        told = yard.rows()
        told[0][0] = 99
        told[1].clear()
        told.append([])
        self.assertEqual(yard.rows(), ROWS)
        self.assertEqual(str(yard), str(Yard(ROWS)))

    def test_no_list_is_returned_twice(self):
        shared = [7] * 6
        made = [Yard(ROWS), Yard([shared] * 3), Yard.even(3, 7), Yard.even(3, 7).with_price(0, "ab", 1)]
        made += [made[0].smallest(2), made[0].backwards(), made[0].renamed("bca"), Yard.read(str(made[0]))]
        for yard in made:
            first, second = yard.rows(), yard.rows()
            lists = [first, second, *first, *second]
            self.assertEqual(len({id(one) for one in lists}), len(lists))
            first[0][0] = 50
            self.assertEqual(first[1:], second[1:])

    def test_yards_are_equal_if_their_lists_are(self):
        yard = Yard(ROWS)
        self.assertTrue(yard == Yard(ROWS))
        self.assertFalse(yard != Yard(ROWS))
        for crate in range(3):
            for way in WAYS:
                other = yard.with_price(crate, way, 77)
                self.assertTrue(yard != other)
                self.assertFalse(yard == other)
        self.assertNotEqual(yard, Yard(ROWS[:2]))
        self.assertNotEqual(yard, Yard(ROWS[::-1]))
        self.assertNotEqual(Yard(ROWS[:2]), yard)

    def test_a_yard_equals_only_a_yard(self):
        yard = Yard(ROWS)
        same_look = [ROWS, tuple(tuple(row) for row in ROWS), str(yard), InvalidYard(yard), [yard], len(yard)]
        for other in [*odd_values(), *same_look]:
            with self.subTest(other=other):
                self.assertIs(yard == other, False)
                self.assertIs(other == yard, False)
                self.assertIs(yard != other, True)

    def test_price_refuses_wrong_crates_and_then_wrong_ways(self):
        yard = Yard(ROWS)
        crates = [*odd_values(), 3, 4, EIGHTY, "2", [0], (0,)]
        ways = [*odd_values(), *NEAR_WAYS, 0, 1, "a"]
        for crate in crates:
            with self.subTest(crate=crate):
                self.assert_refused(InvalidCrate, crate, yard.price, crate, "ab")
                self.assert_refused(InvalidCrate, crate, yard.price, crate=crate, way=["no"])
        for way in ways:
            with self.subTest(way=way):
                self.assert_refused(InvalidWay, way, yard.price, 2, way)
        one = Yard.even(1, 5)
        self.assert_refused(InvalidCrate, 1, one.price, 1, "ab")
        self.assert_refused(InvalidCrate, False, one.price, False, "ab")
        self.assertEqual(Yard(long_rows(60)).price(59, "ab"), long_rows(60)[59][0])


class TextTest(RefusalCase):
    def test_the_text_has_a_line_for_each_crate(self):
        self.assertEqual(str(Yard(ROWS)), "11 12 13 14 15 16\n21 - 23 24 25 26\n31 32 33 - - 36")
        self.assertEqual(str(Yard([[None] * 6])), "- - - - - -")
        self.assertEqual(str(Yard([[1, 20, 300, THIRTY, None, EIGHTY]])), f"1 20 300 {THIRTY} - {EIGHTY}")

    def test_texts_are_read_back(self):
        for yard in [
            Yard(ROWS), Yard.even(1, 1), Yard.even(60, 10 ** 29), Yard(long_rows(60)), Yard([[None] * 6] * 60),
            Yard([[THIRTY] * 6] * 60), Yard([[EIGHTY] * 6]), Yard([prices_at(seed) for seed in range(40)]),
        ]:
            told = Yard.read(str(yard))
            self.assertIs(type(told), Yard)
            self.assertEqual(told, yard)
            self.assertEqual(told.rows(), yard.rows())
        self.assertEqual(Yard.read(text="9 8 7 - 105 1").rows(), [[9, 8, 7, None, 105, 1]])

    def test_values_that_are_no_texts_are_refused(self):
        for value in [*odd_values(), 0, 1, 111111, ROWS, Yard(ROWS), ["1 1 1 1 1 1"], ("1 1 1 1 1 1",)]:
            with self.subTest(value=value):
                self.assert_refused(InvalidText, value, Yard.read, value)
                self.assert_refused(InvalidText, value, Yard.read, text=value)

    def test_texts_of_too_many_or_too_short_or_too_long_lines_are_refused(self):
        line = "1 2 - 4 5 6"
        self.assertEqual(len(Yard.read("\n".join([line] * 60))), 60)
        for text in (
            "\n".join([line] * 61), "1 2 - 4 5", "1 2 - 4 5 6 7", line + "\n1 1 1 1 1", line + "\n1 1 1 1 1 1 1",
            "1", "1 1 1 1 1 1 1 1 1 1 1 1", "1 1 1\n1 1 1",
        ):
            with self.subTest(text=text):
                self.assert_refused(InvalidText, text, Yard.read, text)

    def test_texts_with_wrong_words_are_refused(self):
        words = [
            "0", "00", "01", "010", "+1", "-1", "-0", "--", "1-", "- ", "", " ", "  ", "1_0", "1.0", "1e3", "0x1", "a",
            "None", "1,0", "1/1", "\u0661", "\u00b2", "\uff11", "1\u0662", "\u0661\u0661", "\u2212", "1 ", " 1",
            "\t1", "1\t", "1\r", "\v1", "1\n", "\n1", "1\x00",
        ]
        strange = [chr(code) for code in range(ord(" "), ord("~") + 1) if chr(code) not in "0123456789"]
        words += [sign + "1" for sign in strange] + ["1" + sign for sign in strange]
        words += [sign for sign in strange if sign != "-"]
        for word in words:
            for at in range(6):
                for lines in (1, 2):
                    with self.subTest(word=word, at=at, lines=lines):
                        line = ["3", "14", "-", "5", "926", "5"]
                        line[at] = word
                        text = "\n".join(["1 2 3 4 5 6"] * (lines - 1) + [" ".join(line)])
                        self.assert_refused(InvalidText, text, Yard.read, text)

    def test_texts_with_a_sign_put_in_are_refused_or_read_as_they_stand(self):
        text = "3 14 - 5 926 5\n10 - 1 2 3 4"
        for at in range(len(text) + 1):
            for sign in " \n-+0a.":
                self.check_text(text[:at] + sign + text[at:])
                self.check_text(text[:at] + sign + text[at + 1:])
            self.check_text(text[:at] + text[at + 1:])

    def check_text(self, text):
        """A text is read exactly if it is the one of the yard that its words tell."""
        with self.subTest(text=text):
            rows = [
                [None if word == "-" else int(word) for word in line.split(" ")]
                if all(word == "-" or word.isdigit() for word in line.split(" ")) else None
                for line in text.split("\n")
            ]
            if self.is_canonical(rows, text):
                self.assertEqual(Yard.read(text), Yard(rows))
                self.assertEqual(str(Yard.read(text)), text)
            else:
                self.assert_refused(InvalidText, text, Yard.read, text)

    @staticmethod
    def is_canonical(rows, text):
        if not all(row is not None and len(row) == 6 and 0 not in row for row in rows):
            return False
        return text == "\n".join(" ".join("-" if price is None else str(price) for price in row) for row in rows)

    def test_blanks_and_line_feeds_at_the_ends_are_refused(self):
        line = "1 2 - 4 5 6"
        for text in (
            line + "\n", "\n" + line, line + " ", " " + line, line + "\n\n" + line, line + " \n" + line,
            line + "\n " + line, line.replace(" ", "  ", 1), line.replace(" ", "\t"), line.replace(" ", ","),
            line + "\r\n" + line, line + "\r" + line, line + "\n" + line + "\n", "\n", "\n\n", " \n ",
        ):
            with self.subTest(text=text):
                self.assert_refused(InvalidText, text, Yard.read, text)


class NewYardsTest(RefusalCase):
    def test_even_yards(self):
        for count, price in ((1, 1), (2, 7), (59, 3), (60, THIRTY), (3, EIGHTY)):
            with self.subTest(count=count):
                yard = Yard.even(count, price)
                self.assertIs(type(yard), Yard)
                self.assertEqual(yard.rows(), [[price] * 6 for _ in range(count)])
                self.assertEqual(Yard.even(count=count, price=price), yard)

    def test_even_refuses_wrong_counts_and_then_wrong_prices(self):
        for count in [*odd_values(), 0, 61, 62, -60, EIGHTY, "2", [2]]:
            with self.subTest(count=count):
                self.assert_refused(InvalidCount, count, Yard.even, count, 1)
                self.assert_refused(InvalidCount, count, Yard.even, count=count, price=[0])
        for price in [*no_prices(), None]:
            with self.subTest(price=price):
                self.assert_refused(InvalidPrice, price, Yard.even, 1, price)
                self.assert_refused(InvalidPrice, price, Yard.even, count=60, price=price)

    def test_with_price_changes_one_price_alone(self):
        yard = Yard(ROWS)
        for crate in range(3):
            for column, way in enumerate(WAYS):
                for price in (1, 99, THIRTY, EIGHTY, None):
                    with self.subTest(crate=crate, way=way, price=price):
                        rows = [list(row) for row in ROWS]
                        rows[crate][column] = price
                        changed = yard.with_price(crate, way, price)
                        self.assertIs(type(changed), Yard)
                        self.assertEqual(changed.rows(), rows)
                        self.assertEqual(yard.with_price(crate=crate, way=way, price=price), changed)
        self.assertEqual(yard.rows(), ROWS)
        self.assertEqual(yard.with_price(1, "ac", None), yard)

    def test_with_price_refuses_in_the_order_of_the_signature(self):
        yard = Yard(ROWS)
        for crate in [*odd_values(), 3, 60, EIGHTY]:
            with self.subTest(crate=crate):
                self.assert_refused(InvalidCrate, crate, yard.with_price, crate, "ab", 1)
                self.assert_refused(InvalidCrate, crate, yard.with_price, crate, "no", [0])
        for way in [*odd_values(), *NEAR_WAYS, 0, 1]:
            with self.subTest(way=way):
                self.assert_refused(InvalidWay, way, yard.with_price, 0, way, 1)
                self.assert_refused(InvalidWay, way, yard.with_price, 0, way=way, price=[0])
        for price in no_prices():
            with self.subTest(price=price):
                self.assert_refused(InvalidPrice, price, yard.with_price, 2, "cb", price)
        self.assertEqual(yard.rows(), ROWS)

    def test_smallest_keeps_the_last_crates_in_their_order(self):
        yard = Yard(ROWS)
        for count in (1, 2, 3):
            self.assertEqual(yard.smallest(count).rows(), ROWS[3 - count:])
            self.assertEqual(yard.smallest(count=count), Yard(ROWS[3 - count:]))
        great = Yard(long_rows(60))
        self.assertEqual(great.smallest(60), great)
        self.assertEqual(great.smallest(1).rows(), long_rows(60)[59:])
        self.assertEqual(great.smallest(40).rows(), long_rows(60)[20:])

    def test_smallest_refuses_wrong_counts(self):
        yard = Yard(ROWS)
        for count in [*odd_values(), 0, 4, -3, 60, EIGHTY, "1"]:
            with self.subTest(count=count):
                self.assert_refused(InvalidCount, count, yard.smallest, count)
                self.assert_refused(InvalidCount, count, yard.smallest, count=count)
        self.assert_refused(InvalidCount, 61, Yard.even(60, 1).smallest, 61)
        self.assert_refused(InvalidCount, 2, Yard.even(1, 1).smallest, 2)

    def test_backwards_has_the_prices_of_the_ways_back(self):
        yard = Yard(ROWS)
        back = yard.backwards()
        rows = [[13, 15, 11, 16, 12, 14], [23, 25, 21, 26, None, 24], [33, None, 31, 36, 32, None]]
        self.assertEqual(back.rows(), rows)
        for crate in range(3):
            for way in WAYS:
                self.assertEqual(back.price(crate, way), yard.price(crate, way[1] + way[0]))
        self.assertEqual(back.backwards(), yard)
        self.assertEqual(yard.rows(), ROWS)

    def test_renamed_gives_the_prices_to_the_new_names(self):
        yard = Yard(ROWS)
        for order in itertools.permutations("abc"):
            places = "".join(order)
            names = dict(zip("abc", places))
            renamed = yard.renamed(places)
            for crate in range(3):
                for way in WAYS:
                    with self.subTest(places=places, crate=crate, way=way):
                        self.assertEqual(renamed.price(crate, names[way[0]] + names[way[1]]), yard.price(crate, way))
            self.assertEqual(yard.renamed(places=places), renamed)
        self.assertEqual(yard.renamed("abc"), yard)
        self.assertEqual(yard.renamed("bca").renamed("cab"), yard)
        self.assertEqual(yard.renamed("bca").rows()[0], [15, 16, 12, 11, 14, 13])
        self.assertEqual(yard.rows(), ROWS)

    def test_renamed_refuses_all_but_orders_of_the_places(self):
        near = ["ab", "abcd", "aab", "abb", "aaa", "ABC", "abC", "abd", " abc", "abc ", "a b c", "abcabc", "a", "ac"]
        orders = [["a", "b", "c"], ("a", "b", "c"), ["abc"], {"a": 1, "b": 2, "c": 3}, {"a": "b"}, 0, 1]
        for value in [*odd_values(), *near, *orders]:
            with self.subTest(value=value):
                self.assert_refused(InvalidPlace, value, Yard(ROWS).renamed, value)
                self.assert_refused(InvalidPlace, value, Yard(ROWS).renamed, places=value)

    def test_answers_are_the_same_for_lists_and_tuples(self):
        one, other = Yard(ROWS), Yard(tuple(tuple(row) for row in ROWS))
        self.assertEqual(str(one), str(other))
        self.assertEqual(one.backwards(), other.backwards())
        self.assertEqual(one.renamed("cab").rows(), other.renamed("cab").rows())
        self.assertEqual(one.smallest(2).rows(), other.smallest(2).rows())


class DocumentTest(RefusalCase):
    def test_the_examples_of_the_stage(self):
        yard = Yard([[5, 2, 5, 2, None, 2], [1, 1, 1, 1, 1, 1]])
        self.assertEqual(
            [str(yard).split("\n"), len(yard), yard.price(0, "ca"), yard.price(1, "cb"), third("ca")],
            [["5 2 5 2 - 2", "1 1 1 1 1 1"], 2, None, 1, "b"],
        )
        self.assertEqual(
            [str(yard.backwards()).split("\n")[0], str(yard.renamed("bca")).split("\n")[0],
             yard.smallest(1) == Yard.even(1, 1)],
            ["5 - 5 2 2 2", "- 2 2 5 2 5", True],
        )
        self.assert_refused(InvalidText, "1 1 1 1 1 0", Yard.read, "1 1 1 1 1 0")

    def test_the_methods_stand_in_the_class_itself(self):
        own = vars(yards.Yard)
        for name in (
            "__init__", "__len__", "__eq__", "__str__", "rows", "price", "read", "even", "with_price", "smallest",
            "backwards", "renamed",
        ):
            self.assertIn(name, own)
        self.assertIsInstance(own["read"], classmethod)
        self.assertIsInstance(own["even"], classmethod)


if __name__ == "__main__":
    unittest.main()
