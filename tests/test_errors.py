"""Points 2 and 3, and the row of errors.py under the interface."""

import unittest

from leastattr import errors
from samples import no_integers, odd_values

FIELDS = {
    "NoGrammar": ("part", "index"), "NoKind": ("kind",), "NoTree": ("index",), "NotTop": ("kind",),
    "NoContext": ("index",), "WrongKind": ("kind",), "NoCode": ("part", "index"), "NotOver": ("rule",),
    "NoPaper": ("part", "index"), "NoRows": ("part", "index"), "NoRecipe": ("index",), "NoAutomaton": (),
    "NoSplit": ("part",), "NoText": ("row",), "NoForm": ("index",), "NoState": ("index",),
    "ManyUnknowns": ("number",), "NotOnce": ("name",), "NoNumbers": ("index",), "NoPath": ("path",),
    "LargeTree": ("nodes",), "NoRule": ("rule",), "NoCount": ("part",),
}


class ErrorsTest(unittest.TestCase):

    def test_all_derive_directly_from_attr_error(self):
        self.assertEqual(errors.AttrError.__bases__, (ValueError,))
        for name in FIELDS:
            with self.subTest(name=name):
                made = getattr(errors, name)
                self.assertEqual(made.__bases__, (errors.AttrError,))
                self.assertEqual(made.__module__, "leastattr.errors")

    def test_fields_by_position_and_by_name(self):
        for name, fields in FIELDS.items():
            with self.subTest(name=name):
                given = [object() for _ in fields]
                by_place = getattr(errors, name)(*given)
                by_name = getattr(errors, name)(**dict(zip(fields, given)))
                for field, thing in zip(fields, given):
                    self.assertIs(getattr(by_place, field), thing)
                    self.assertIs(getattr(by_name, field), thing)

    def test_a_field_may_be_any_value(self):
        for name, fields in FIELDS.items():
            for thing in odd_values() + no_integers():
                error = getattr(errors, name)(*[thing for _ in fields])
                for field in fields:
                    self.assertIs(getattr(error, field), thing)

    def test_they_are_caught_as_value_errors(self):
        for name, fields in FIELDS.items():
            with self.assertRaises(ValueError):
                raise getattr(errors, name)(*fields)

    def test_no_field_is_left_out(self):
        for name, fields in FIELDS.items():
            if fields:
                with self.subTest(name=name), self.assertRaises(TypeError):
                    getattr(errors, name)(*fields[1:])

    def test_equal_to_nothing_of_another_kind(self):
        for name, fields in FIELDS.items():
            error = getattr(errors, name)(*fields)
            for thing in odd_values() + [fields, name]:
                self.assertFalse(error == thing)
                self.assertTrue(error != thing)


if __name__ == "__main__":
    unittest.main()
