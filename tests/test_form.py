"""Tests of the form: the names and arguments of the interface, and the sizes of the package's files."""

import ast
import builtins
import inspect
import pathlib
import unittest

from cratetowers import (
    arrangements, costs, counting, desk, glimpses, levels, lots, oneprice, patterns, rows, totals, ways, yards,
)

FOLDER = pathlib.Path(yards.__file__).parent
FUNCTIONS = {
    yards: {
        "is_place": ["value"], "is_way": ["value"], "is_price": ["value"], "third": ["way"],
    },
    arrangements: {
        "is_arrangement": ["yard", "value"], "tower": ["yard", "place"], "number_of": ["yard", "arrangement"],
        "arrangement_at": ["yard", "number"], "on_place": ["yard", "arrangement", "place"],
        "top_crate": ["yard", "arrangement", "place"], "allowed": ["yard", "arrangement"],
        "moved": ["yard", "arrangement", "move"], "move_cost": ["yard", "arrangement", "move"],
        "way_back": ["yard", "arrangement", "move"],
    },
    rows: {
        "is_row": ["yard", "start", "value"], "first_bad": ["yard", "start", "row"], "behind": ["yard", "start", "row"],
        "all_behind": ["yard", "start", "row"], "row_cost": ["yard", "start", "row"],
        "row_crates": ["yard", "start", "row"], "row_of_largest": ["yard", "start", "row", "count"],
        "cut_short": ["yard", "start", "row"], "row_back": ["yard", "start", "row"],
    },
    levels: {
        "tables": ["yard"], "tower_cost": ["yard", "way"], "is_paper": ["yard", "value"],
        "told_cost": ["yard", "paper", "way"], "straight_ways": ["yard"],
    },
    costs: {
        "to_towers": ["yard", "start"], "from_towers": ["yard", "goal"], "least": ["yard", "start", "goal"],
        "largest_moving": ["yard", "start", "goal"], "paper": ["yard", "start", "goal"],
        "is_cost_paper": ["yard", "start", "goal", "value"], "shown_cost": ["yard", "start", "goal", "paper"],
    },
    counting: {
        "count_cheapest": ["yard", "start", "goal"], "fewest_moves": ["yard", "start", "goal"],
        "most_moves": ["yard", "start", "goal"], "lies_on_some": ["yard", "start", "goal", "arrangement"],
        "lies_on_all": ["yard", "start", "goal", "arrangement"],
    },
    patterns: {
        "is_pattern": ["yard", "value"], "fits": ["yard", "pattern", "arrangement"],
        "how_many_fit": ["yard", "pattern"],
        "cost_to": ["yard", "start", "pattern"], "nearest": ["yard", "start", "pattern"],
        "how_many_nearest": ["yard", "start", "pattern"], "cost_from": ["yard", "pattern", "goal"],
        "nearest_start": ["yard", "pattern", "goal"], "cost_between": ["yard", "starts", "goals"],
        "pair_between": ["yard", "starts", "goals"], "home_costs": ["yard", "start", "goal"],
        "home_within": ["yard", "start", "goal", "cost"],
    },
    lots: {
        "come_to": ["yard", "start"], "come_from": ["yard", "goal"], "both_ways": ["yard", "start"],
        "come_to_any": ["yard", "pattern"], "nearest_lot": ["yard", "start", "pattern"],
    },
    oneprice: {
        "cost_with": ["yard", "start", "goal", "crate", "way", "price"],
        "kept_range": ["yard", "start", "goal", "crate", "way"],
        "fewest_uses": ["yard", "start", "goal", "crate", "way"],
        "pieces": ["yard", "start", "goal", "crate", "way", "low", "high"],
    },
    totals: {
        "can_come": ["yard", "start"], "farthest": ["yard", "start"], "farthest_from_tower": ["yard", "place"],
        "sum_to_tower": ["yard", "place"], "twice_moved": ["yard"],
    },
    glimpses: {
        "moment": ["yard", "start", "goal", "arrangement"], "price_range": ["yard", "crate", "way", "seen"],
        "closed": ["yard"], "same_costs": ["one", "other"], "parting_pair": ["one", "other"],
    },
}
METHODS = {
    yards.Yard: {
        "__init__": ["rows"], "rows": [], "price": ["crate", "way"], "with_price": ["crate", "way", "price"],
        "smallest": ["count"], "backwards": [], "renamed": ["places"], "__len__": [], "__eq__": ["other"],
        "__str__": [],
    },
    ways.Way: {
        "__init__": ["yard", "start", "goal"], "move": ["index"], "behind": ["count"], "first": ["count"],
        "crate_moves": [], "uses": ["crate", "way"],
    },
    lots.Lot: {
        "count": [], "at": ["number"], "number": ["arrangement"], "first": ["count"], "both": ["other"],
        "either": ["other"], "without": ["other"], "within": ["other"], "__contains__": ["arrangement"],
        "__eq__": ["other"],
    },
    desk.Desk: {
        "__init__": [], "begin": ["yard", "arrangement"], "set_price": ["crate", "way", "price"],
        "move": ["crate", "place"], "lead": ["goal"], "follow": ["goal", "count"], "yard": [], "arrangement": [],
        "paid": [], "undo": [], "redo": [], "trial": ["act"], "run": ["line"], "run_all": ["lines"],
    },
}
CLASS_METHODS = {
    yards.Yard: {"read": ["text"], "even": ["count", "price"]},
    lots.Lot: {"every": ["yard"], "of_pattern": ["yard", "pattern"]},
}
PROPERTIES = {ways.Way: ["cost", "moves"], desk.Desk: ["undos", "redos"]}
MODULES = {
    yards.Yard: "cratetowers.yards", ways.Way: "cratetowers.ways", lots.Lot: "cratetowers.lots",
    desk.Desk: "cratetowers.desk",
}

# Words that may not stand in the code of the package, and names of Python's own that it may call.
BARRED_WORDS = {"type", "law", "open", "input", "register", "mro", "elements", "enum", "exec", "eval", "compile", "id"}
BUILTINS = {
    "len", "range", "enumerate", "zip", "min", "max", "sum", "sorted", "reversed", "int", "str", "list", "tuple",
    "dict", "isinstance", "any", "all", "divmod", "bool", "abs", "ValueError", "property", "classmethod",
}
# Methods that Python itself calls for a sign or a builtin; they and properties call nothing that an object holds.
CALLED_BY_SIGNS = {"__contains__", "__eq__", "__len__", "__repr__", "__str__"}


def arguments_of(call):
    return list(inspect.signature(call).parameters)


def nodes_of_package(kinds):
    """All nodes of some kinds in the files of the package."""
    trees = [ast.parse(path.read_text()) for path in sorted(FOLDER.glob("*.py"))]
    return [node for tree in trees for node in ast.walk(tree) if isinstance(node, kinds)]


def is_called_by_sign(function):
    decorators = [ast.unparse(node) for node in function.decorator_list]
    return function.name in CALLED_BY_SIGNS or "property" in decorators


def name_called(call):
    """The name of what is called, or None if it has none, as in `acts[0](x)`."""
    return call.func.id if isinstance(call.func, ast.Name) else getattr(call.func, "attr", None)


def calls_in(nodes):
    return [call for node in nodes for call in ast.walk(node) if isinstance(call, ast.Call)]


def functions_run_by_signs():
    """The methods that signs and properties run, and all functions that these call, whatever object has them."""
    known = nodes_of_package((ast.FunctionDef, ast.ClassDef))
    found = [node for node in known if isinstance(node, ast.FunctionDef) and is_called_by_sign(node)]
    for function in found:
        names = {name_called(call) for call in calls_in([function])}
        found.extend([node for node in known if node.name in names and node not in found])
    return found


class InterfaceTest(unittest.TestCase):
    def test_functions_stand_in_their_files_with_their_arguments(self):
        for module, functions in FUNCTIONS.items():
            for name, arguments in functions.items():
                with self.subTest(name=name):
                    call = getattr(module, name)
                    self.assertEqual(call.__module__, module.__name__)
                    self.assertEqual(arguments_of(call), arguments)

    def test_classes_have_their_methods_in_their_own_bodies(self):
        for kind, methods in METHODS.items():
            self.assertEqual(kind.__module__, MODULES[kind])
            for name, arguments in methods.items():
                with self.subTest(kind=kind, name=name):
                    self.assertEqual(arguments_of(vars(kind)[name])[1:], arguments)
        for kind, methods in CLASS_METHODS.items():
            for name, arguments in methods.items():
                with self.subTest(kind=kind, name=name):
                    self.assertIsInstance(vars(kind)[name], classmethod)
                    self.assertEqual(arguments_of(getattr(kind, name)), arguments)
        for kind, names in PROPERTIES.items():
            for name in names:
                with self.subTest(kind=kind, name=name):
                    self.assertIsInstance(vars(kind)[name], property)


class FilesTest(unittest.TestCase):
    def test_the_folder_holds_plain_files_alone(self):
        names = {path.name for path in FOLDER.iterdir()} - {"__pycache__"}
        self.assertIn("__init__.py", names)
        for name in names:
            self.assertRegex(name, r"^[a-z0-9_]+\.py$")

    def test_signs_and_sizes(self):
        for path in FOLDER.glob("*.py"):
            text = path.read_bytes().decode("ascii")
            lines = text.split("\n")
            with self.subTest(path=path.name):
                self.assertTrue(all(sign == "\n" or " " <= sign <= "~" for sign in text))
                self.assertLess(len(lines), 400)
                self.assertLessEqual(max(map(len, lines)), 120)

    def test_names_of_pythons_own(self):
        for path in FOLDER.glob("*.py"):
            for node in ast.walk(ast.parse(path.read_text())):
                with self.subTest(path=path.name, line=getattr(node, "lineno", None)):
                    if isinstance(node, ast.Name):
                        self.assertNotIn(node.id, BARRED_WORDS)
                        self.assertTrue(node.id in BUILTINS or not hasattr(builtins, node.id), node.id)
                    if isinstance(node, (ast.Import, ast.ImportFrom)):
                        self.assertIsInstance(node, ast.ImportFrom)
                        self.assertRegex(node.module, r"^cratetowers\.[a-z]+$")
                    if isinstance(node, ast.Constant):
                        self.assertIn(node.value.__class__.__name__, ("str", "int", "bool", "NoneType"))
                        self.assertNotIn("%", str(node.value))
                    self.assertNotIsInstance(node, (ast.GeneratorExp, ast.Div, ast.Lambda, ast.Global, ast.Set))

    def test_operators_and_properties_call_nothing_that_is_passed_or_held(self):
        held = {node.attr for node in nodes_of_package(ast.Attribute) if isinstance(node.ctx, ast.Store)}
        self.assertLessEqual({"index", "count", "value", "crates"}, held)
        own = {node.name for node in nodes_of_package((ast.FunctionDef, ast.ClassDef))}
        functions = functions_run_by_signs()
        self.assertLessEqual({"__contains__", "__eq__", "__len__", "__str__", "cost", "undos"}, {
            function.name for function in functions
        })
        for call in calls_in(functions):
            with self.subTest(call=ast.unparse(call)):
                if isinstance(call.func, ast.Name):
                    self.assertIn(call.func.id, BUILTINS | own)
                else:
                    self.assertIsInstance(call.func, ast.Attribute)
                    self.assertNotIn(call.func.attr, held)

    def test_functions_have_at_most_forty_lines(self):
        for path in FOLDER.glob("*.py"):
            for node in ast.walk(ast.parse(path.read_text())):
                if isinstance(node, ast.FunctionDef):
                    with self.subTest(path=path.name, name=node.name):
                        self.assertLessEqual(node.end_lineno - node.lineno + 1, 40)


if __name__ == "__main__":
    unittest.main()
