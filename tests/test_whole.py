"""Tests over the whole program: promises 7 to 10, of what is handed in and of what is returned."""

import copy
import doctest
import inspect
import pathlib
import unittest

from cratetowers import (
    arrangements, costs, counting, glimpses, levels, lots, oneprice, patterns, rows, totals, ways, yards,
)
from cratetowers.desk import Desk
from cratetowers.errors import InvalidYard
from cratetowers.lots import Lot
from cratetowers.ways import Way
from cratetowers.yards import WAYS, Yard
from tests.helpers import RefusalCase, no_yards
from tests.test_form import FUNCTIONS

MODULES = [arrangements, costs, counting, glimpses, levels, lots, oneprice, patterns, rows, totals]
YARD = Yard([[5, 2, 5, 2, None, 2], [1, 4, 1, 1, 1, 3], [1, 1, 1, 2, 1, 1]])
PRICES = [[5, 2, 5, 2, None, 2], [1, 1, 1, 1, 1, 1]]
ROW = [(2, "b"), (1, "c"), (2, "c"), (0, "b"), (2, "c")]


def told_lists(yard):
    """All that the program returns in lists and dicts, each with a name."""
    row = ROW[:4]
    way = Way(yard, "aab", "cbc")
    return {
        "rows": yard.rows(),
        "on_place": arrangements.on_place(yard, "aab", "a"),
        "allowed": arrangements.allowed(yard, "aab"),
        "all_behind": rows.all_behind(yard, "aaa", row),
        "row_crates": rows.row_crates(yard, "aaa", row),
        "row_of_largest": rows.row_of_largest(yard, "aaa", row, 3),
        "cut_short": rows.cut_short(yard, "aaa", row),
        "row_back": rows.row_back(yard, "aaa", row),
        "tables": levels.tables(yard),
        "straight_ways": levels.straight_ways(yard),
        "to_towers": costs.to_towers(yard, "abc"),
        "from_towers": costs.from_towers(yard, "abc"),
        "paper": costs.paper(yard, "aab", "cba"),
        "first": way.first(min(way.moves, 5)),
        "crate_moves": way.crate_moves(),
        "home_costs": patterns.home_costs(yard, "aab", "cba"),
        "lot": Lot.every(yard).first(20),
        "come_to": lots.come_to(yard, "aab").first(3),
        "pieces": oneprice.pieces(yard, "aab", "cba", 1, "ab", 1, 30),
    }


def lists_in(value):
    """All lists and dicts in a value, itself included."""
    found = [value] if isinstance(value, (list, dict)) else []
    if isinstance(value, (list, tuple)):
        for item in value:
            found += lists_in(item)
    if isinstance(value, dict):
        for item in value.values():
            found += lists_in(item)
    return found


def spoil(value):
    """Change all lists and dicts in a value."""
    for held in lists_in(value):
        if isinstance(held, list):
            held.reverse()
            held.append("x")
        else:
            held.update({key: "x" for key in list(held)})
            held[0] = None


class ReturnedTest(unittest.TestCase):
    def test_what_is_returned_can_be_changed(self):
        first = told_lists(YARD)
        right = copy.deepcopy(first)
        spoil(list(first.values()))
        self.assertEqual(told_lists(YARD), right)
        self.assertEqual(told_lists(Yard(YARD.rows())), right)

    def test_no_list_stands_at_two_places(self):
        first, second = told_lists(YARD), told_lists(YARD)
        held = [id(value) for told in (first, second) for value in lists_in(list(told.values()))]
        self.assertEqual(len(held), len(set(held)))

    def test_the_answers_of_a_desk(self):
        desk = Desk()
        told = desk.run_all(["begin aa 3", "show"])
        told[0] = "x"
        self.assertEqual(desk.run_all(["begin aa 3", "show"]), ["ok", "aa"])
        desk.yard().rows()[0][0] = 99
        self.assertEqual(desk.yard(), Yard.even(2, 3))


class HandedInTest(unittest.TestCase):
    def test_rows_of_prices(self):
        handed = copy.deepcopy(PRICES)
        yard = Yard(handed)
        right = told_by_papers(yard)
        handed[0][0] = handed[1][2] = 77
        handed.append([1] * 6)
        self.assertEqual(yard.rows(), PRICES)
        self.assertEqual(told_by_papers(yard), right)

    def test_papers(self):
        yard = Yard(PRICES)
        handed = levels.tables(yard)
        self.assertTrue(levels.is_paper(yard, handed))
        self.assertEqual(handed, levels.tables(yard))
        spoil(handed)
        self.assertFalse(levels.is_paper(yard, handed))
        self.assertTrue(levels.is_paper(yard, levels.tables(yard)))
        handed = costs.paper(yard, "aa", "cb")
        told = costs.shown_cost(yard, "aa", "cb", handed)
        self.assertEqual(handed, costs.paper(yard, "aa", "cb"))
        spoil(handed)
        self.assertEqual(costs.shown_cost(yard, "aa", "cb", costs.paper(yard, "aa", "cb")), told)

    def test_patterns_and_costs_seen(self):
        yard = Yard(PRICES)
        pattern, seen = ["bc", "ab"], [("aa", "bb", 7), ("aa", "ab", 1)]
        right = [patterns.nearest(yard, "aa", pattern), glimpses.price_range(yard, 0, "ab", seen)]
        lot = Lot.of_pattern(yard, pattern)
        count = lot.count()
        self.assertEqual((pattern, seen), (["bc", "ab"], [("aa", "bb", 7), ("aa", "ab", 1)]))
        pattern[0] = "a"
        seen.pop()
        self.assertEqual(lot.count(), count)
        seen = (*seen, ("aa", "ab", 1))
        again = [patterns.nearest(yard, "aa", ("bc", "ab")), glimpses.price_range(yard, 0, "ab", seen)]
        self.assertEqual(again, right)

    def test_rows_of_moves(self):
        row = ROW[:4]
        told = rows.all_behind(YARD, "aaa", row)
        row.clear()
        self.assertEqual(rows.all_behind(YARD, "aaa", tuple(ROW[:4])), told)


def told_by_papers(yard):
    return [levels.tables(yard), costs.paper(yard, "aa", "cb"), Way(yard, "aa", "cb").first(2), str(yard)]


class YardsTest(RefusalCase):
    def test_all_doors_refuse_wrong_yards_ahead_of_all_else(self):
        doors = [
            (call, len(arguments)) for module in MODULES
            for call, arguments in [(getattr(module, name), listed) for name, listed in FUNCTIONS[module].items()]
            if arguments[0] in ("yard", "one")
        ]
        doors += [(Way, 3), (Lot.every, 1), (Lot.of_pattern, 2), (Desk().begin, 2)]
        self.assertGreater(len(doors), 60)
        for call, many in doors:
            for value in no_yards()[::3]:
                for other in (None, "aaa", value):
                    self.assert_refused(InvalidYard, value, call, value, *[other] * (many - 1))

    def test_results_are_arguments(self):
        moves = Way(YARD, "aab", "cbc").first(4)
        self.assertTrue(rows.is_row(YARD, "aab", moves))
        self.assertTrue(costs.is_cost_paper(YARD, "aab", "cba", costs.paper(YARD, "aab", "cba")))
        cost, arrangement = patterns.nearest(YARD, "aab", ["bc", "a", "ab"])
        self.assertEqual(oneprice.cost_with(YARD, "aab", arrangement, 2, "ab", YARD.price(2, "ab")), cost)
        self.assertEqual(glimpses.moment(YARD, "aab", arrangement, arrangement), Way(YARD, "aab", arrangement).moves)
        self.assertEqual(costs.least(glimpses.closed(YARD), *patterns.pair_between(YARD, ["a"] * 3, ["b"] * 3)),
                         costs.least(YARD, "aaa", "bbb"))
        self.assertEqual(Yard.read(str(YARD)), YARD)
        reached = lots.come_to(YARD, "aaa")
        self.assertEqual(reached.at(reached.number(totals.farthest(YARD, "aaa")[1])), totals.farthest(YARD, "aaa")[1])

    def test_objects_equal_only_their_own_kind(self):
        values = [Yard.even(2, 1), Lot.every(Yard.even(2, 1)), Way(Yard.even(2, 1), "aa", "bb"), Desk(), (), None]
        for at, one in enumerate(values):
            for other_at, other in enumerate(values):
                self.assertIs(one == other, at == other_at)

    def test_functions_have_no_further_arguments(self):
        for module in MODULES:
            for name in FUNCTIONS[module]:
                for parameter in inspect.signature(getattr(module, name)).parameters.values():
                    self.assertIs(parameter.kind, inspect.Parameter.POSITIONAL_OR_KEYWORD)
                    self.assertIs(parameter.default, inspect.Parameter.empty)


class NamesTest(unittest.TestCase):
    def arguments(self):
        """A right value for each name of an argument."""
        return {
            "yard": YARD, "one": YARD, "other": Yard.even(3, 2), "start": "aab", "goal": "cba", "arrangement": "aac",
            "place": "b", "move": (2, "b"), "row": [(2, "a"), (2, "c")], "count": 2, "number": 7, "crate": 1,
            "way": "ab", "price": 9, "low": 2, "high": 12, "cost": 8, "paper": levels.tables(YARD),
            "value": ["ab", "c", "bc"],
            "pattern": ["bc", "a", "abc"], "starts": ["ab", "c", "bc"], "goals": ["c", "ab", "a"],
            "seen": [("aab", "aac", 1)],
        }

    def assert_called_alike(self, call, names, values):
        right = call(*[values[name] for name in names])
        self.assertEqual(call(**{name: values[name] for name in names}), right)
        self.assertEqual(call(**{name: values[name] for name in reversed(names)}), right)

    def test_functions_by_the_names_of_their_arguments(self):
        tried = 0
        for module, functions in FUNCTIONS.items():
            for name, names in functions.items():
                values = self.arguments()
                if name in ("third", "is_place"):
                    values["value"] = "ab"
                if name == "is_cost_paper":
                    values["value"] = costs.paper(YARD, "aab", "cba")
                if name == "shown_cost":
                    values["paper"] = costs.paper(YARD, "aab", "cba")
                with self.subTest(name=name):
                    self.assert_called_alike(getattr(module, name), names, values)
                    tried += 1
        self.assertGreater(tried, 65)

    def test_methods_by_the_names_of_their_arguments(self):
        way = Way(goal="cba", start="aab", yard=YARD)
        self.assertEqual((way.start, way.goal), ("aab", "cba"))
        lot = Lot.every(yard=YARD)
        values = {"index": 1, "count": 1, "crate": 1, "way": "ab", "price": 7, "places": "cab", "number": 5}
        values |= {"arrangement": "abc", "other": lot, "text": str(YARD)}
        for call, names in [
            (YARD.price, ["crate", "way"]), (YARD.with_price, ["crate", "way", "price"]), (YARD.smallest, ["count"]),
            (YARD.renamed, ["places"]), (Yard.even, ["count", "price"]), (Yard.read, ["text"]), (way.move, ["index"]),
            (way.behind, ["count"]), (way.first, ["count"]), (way.uses, ["crate", "way"]), (lot.at, ["number"]),
            (lot.number, ["arrangement"]), (lot.first, ["count"]), (lot.both, ["other"]), (lot.either, ["other"]),
            (lot.without, ["other"]), (lot.within, ["other"]),
        ]:
            self.assert_called_alike(call, names, values)
        self.assertEqual(Yard(rows=PRICES), Yard(PRICES))


class ReadmeTest(unittest.TestCase):
    def test_the_examples_of_the_readme(self):
        path = pathlib.Path(__file__).parent.parent / "README.md"
        failed, tried = doctest.testfile(str(path), module_relative=False)
        self.assertEqual(failed, 0)
        self.assertGreater(tried, 15)


class GreatPricesTest(unittest.TestCase):
    def test_prices_of_eighty_figures(self):
        price = 10 ** 80 - 1
        yard = yards.Yard.even(60, price)
        start, goal = "a" * 60, "c" * 60
        cost = price * (2 ** 60 - 1)
        self.assertEqual(costs.least(yard, start, goal), cost)
        self.assertEqual(ways.Way(yard, start, goal).cost, cost)
        self.assertEqual(oneprice.cost_with(Yard.even(60, 1), start, goal, 0, "ac", price), 3 * 2 ** 59 - 1)
        self.assertEqual(counting.fewest_moves(yard, start, goal), 2 ** 60 - 1)
        self.assertEqual(patterns.cost_to(yard, start, list(goal)), cost)
        self.assertEqual(glimpses.closed(yard), yard)
        self.assertEqual(
            glimpses.price_range(yard, 0, "ac", [(start, goal, cost)]), (price, price, False)
        )
        self.assertEqual({levels.tower_cost(yard, way) for way in WAYS}, {cost})


if __name__ == "__main__":
    unittest.main()
