"""Tests of the exceptions: promises 10 and 12."""

import unittest

from cratetowers import errors
from cratetowers.errors import CratesError
from tests.helpers import odd_values

WITH_VALUE = (
    "InvalidYard", "InvalidPrice", "InvalidText", "InvalidArrangement", "InvalidPlace", "InvalidWay",
    "InvalidCrate", "InvalidMove", "InvalidRow", "InvalidCount", "InvalidPattern", "InvalidPaper",
    "InvalidLot", "InvalidCosts", "InvalidLine",
)
FIELDS = {
    **{name: ("value",) for name in WITH_VALUE},
    "NotAllowed": ("index",),
    "TooMany": ("count",),
    "NoWay": ("start", "goal"),
    "UnlikeYards": (),
    "NoYard": (),
    "NothingToUndo": (),
    "NothingToRedo": (),
}


class ErrorsTest(unittest.TestCase):
    def test_all_exceptions_are_there_and_no_others(self):
        found = {
            name for name, kind in vars(errors).items()
            if isinstance(kind, type) and issubclass(kind, CratesError)
        }
        self.assertEqual(found, {"CratesError", *FIELDS})

    def test_each_stands_directly_under_crates_error(self):
        self.assertEqual(CratesError.__bases__, (ValueError,))
        for name in FIELDS:
            with self.subTest(name=name):
                kind = getattr(errors, name)
                self.assertEqual(kind.__bases__, (CratesError,))
                self.assertEqual(kind.__name__, name)
                self.assertEqual(kind.__module__, "cratetowers.errors")

    def test_no_two_names_are_one_class(self):
        self.assertEqual(len({id(getattr(errors, name)) for name in FIELDS}), len(FIELDS))

    def test_fields_hold_the_very_values_by_position_and_by_name(self):
        for name, fields in FIELDS.items():
            kind = getattr(errors, name)
            for worth in [*odd_values(), 0, 3, 10 ** 80, "ab", [1, [2, {"a": [3]}]]]:
                with self.subTest(name=name, worth=worth):
                    worths = [worth, [worth]][:len(fields)]
                    by_place = kind(*worths)
                    by_name = kind(**dict(zip(fields, worths)))
                    for field, kept in zip(fields, worths):
                        self.assertIs(getattr(by_place, field), kept)
                        self.assertIs(getattr(by_name, field), kept)

    def test_a_value_that_changes_later_is_seen_in_the_field(self):
        rows = [[1], [2]]
        error = errors.InvalidYard(rows)
        rows[0].append(5)
        rows.append("new")
        self.assertEqual(error.value, [[1, 5], [2], "new"])

    def test_exceptions_have_no_fields_of_others(self):
        for name, fields in FIELDS.items():
            error = getattr(errors, name)(*fields)
            for field in {"value", "index", "count", "start", "goal"} - set(fields):
                with self.subTest(name=name, field=field):
                    self.assertNotIn(field, vars(error))

    def test_exceptions_are_raised_and_caught(self):
        for name, fields in FIELDS.items():
            for caught_as in (getattr(errors, name), CratesError, ValueError):
                with self.subTest(name=name, caught_as=caught_as):
                    error = getattr(errors, name)(*fields)
                    with self.assertRaises(caught_as) as caught:
                        raise error
                    self.assertIs(caught.exception, error)

    def test_an_exception_equals_only_itself(self):
        for name, fields in FIELDS.items():
            with self.subTest(name=name):
                kind = getattr(errors, name)
                error = kind(*fields)
                self.assertEqual(error, error)
                for other in [kind, name, None, *fields]:
                    self.assertNotEqual(error, other)


if __name__ == "__main__":
    unittest.main()
