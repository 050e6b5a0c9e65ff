"""Tests of the form: the names and arguments of the interface, and the sizes of the package's files."""

import ast
import inspect
import pathlib
import unittest

from cratetowers import arrangements, yards

FOLDER = pathlib.Path(yards.__file__).parent
FUNCTIONS = {
    yards: {
        "is_place": ["value"], "is_way": ["value"], "is_price": ["value"], "third": ["way"],
    },
    arrangements: {
        "is_arrangement": ["yard", "value"], "tower": ["yard", "place"], "number_of": ["yard", "arrangement"],
        "arrangement_at": ["yard", "number"], "on_place": ["yard", "arrangement", "place"],
        "top_crate": ["yard", "arrangement", "place"], "allowed": ["yard", "arrangement"],
        "moved": ["yard", "arrangement", "move"], "move_cost": ["yard", "arrangement", "move"],
        "way_back": ["yard", "arrangement", "move"],
    },
}
METHODS = {
    "__init__": ["rows"], "rows": [], "price": ["crate", "way"], "with_price": ["crate", "way", "price"],
    "smallest": ["count"], "backwards": [], "renamed": ["places"],
}
CLASS_METHODS = {"read": ["text"], "even": ["count", "price"]}


def arguments_of(call):
    return list(inspect.signature(call).parameters)


class InterfaceTest(unittest.TestCase):
    def test_functions_stand_in_their_files_with_their_arguments(self):
        for module, functions in FUNCTIONS.items():
            for name, arguments in functions.items():
                with self.subTest(name=name):
                    call = getattr(module, name)
                    self.assertEqual(call.__module__, module.__name__)
                    self.assertEqual(arguments_of(call), arguments)

    def test_the_yard_has_its_methods_with_their_arguments(self):
        self.assertEqual(yards.Yard.__module__, "cratetowers.yards")
        for name, arguments in METHODS.items():
            with self.subTest(name=name):
                self.assertEqual(arguments_of(vars(yards.Yard)[name])[1:], arguments)
        for name, arguments in CLASS_METHODS.items():
            with self.subTest(name=name):
                self.assertEqual(arguments_of(getattr(yards.Yard, name)), arguments)


class FilesTest(unittest.TestCase):
    def test_the_folder_holds_plain_files_alone(self):
        names = {path.name for path in FOLDER.iterdir()} - {"__pycache__"}
        self.assertIn("__init__.py", names)
        for name in names:
            self.assertRegex(name, r"^[a-z0-9_]+\.py$")

    def test_signs_and_sizes(self):
        for path in FOLDER.glob("*.py"):
            text = path.read_bytes().decode("ascii")
            lines = text.split("\n")
            with self.subTest(path=path.name):
                self.assertTrue(all(sign == "\n" or " " <= sign <= "~" for sign in text))
                self.assertLess(len(lines), 400)
                self.assertLessEqual(max(map(len, lines)), 120)

    def test_functions_have_at_most_forty_lines(self):
        for path in FOLDER.glob("*.py"):
            for node in ast.walk(ast.parse(path.read_text())):
                if isinstance(node, ast.FunctionDef):
                    with self.subTest(path=path.name, name=node.name):
                        self.assertLessEqual(node.end_lineno - node.lineno + 1, 40)


if __name__ == "__main__":
    unittest.main()
