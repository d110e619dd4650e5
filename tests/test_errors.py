"""The errors of the package: the interface of uponboth/errors.py."""

import unittest

from uponboth import errors

WITH_FIELD = {
    "InvalidText": "position",
    "TooLarge": "size",
    "InvalidStep": "position",
    "DuplicateName": "name",
    "UnknownName": "name",
    "InvalidCommand": "position",
    "InvalidSnapshot": "row",
}
WITHOUT_FIELD = [
    "InvalidTerm",
    "InvalidPath",
    "PathNotFound",
    "NotRewritable",
    "InvalidSize",
    "InvalidIndex",
    "InvalidWord",
    "InvalidElement",
    "InvalidModel",
    "NestingTooDeep",
    "InvalidLabel",
    "LimitReached",
    "EmptyHistory",
]


class ErrorTests(unittest.TestCase):
    def test_there_are_twenty_errors_and_their_base(self):
        names = [name for name, value in vars(errors).items() if isinstance(value, type)]
        self.assertEqual(sorted(names), sorted(["TermError", *WITH_FIELD, *WITHOUT_FIELD]))
        self.assertEqual(len(names), 21)

    def test_base_is_a_value_error(self):
        self.assertEqual(errors.TermError.__bases__, (ValueError,))

    def test_each_error_is_a_direct_subclass(self):
        for name in [*WITH_FIELD, *WITHOUT_FIELD]:
            with self.subTest(name):
                self.assertEqual(getattr(errors, name).__bases__, (errors.TermError,))
                self.assertEqual(getattr(errors, name).__name__, name)

    def test_fields_are_set(self):
        for name, field in WITH_FIELD.items():
            for value in ("word", "") if field == "name" else (0, 7, 10**30):
                with self.subTest(name):
                    error = getattr(errors, name)(value)
                    self.assertEqual(vars(error), {field: value})
                    self.assertIsInstance(str(error), str)

    def test_errors_without_a_field_have_none(self):
        for name in WITHOUT_FIELD:
            with self.subTest(name):
                self.assertEqual(vars(getattr(errors, name)("words")), {})


if __name__ == "__main__":
    unittest.main()
