"""The errors of the package: the interface of uponboth/errors.py."""

import unittest

from uponboth import errors
from uponboth.models import first_violation, generated_values
from uponboth.programs import Program
from uponboth.rewriting import expand
from uponboth.snapshots import load
from uponboth.store import Store
from uponboth.tables import Table
from uponboth.terms import count_terms, parse_term, size_of
from uponboth.words import apply_moves, inverse

WITH_FIELD = {
    "InvalidText": "position",
    "TooLarge": "size",
    "InvalidStep": "position",
    "DuplicateName": "name",
    "UnknownName": "name",
    "InvalidCommand": "position",
    "InvalidSnapshot": "row",
}
WITHOUT_FIELD = [
    "InvalidTerm",
    "InvalidPath",
    "PathNotFound",
    "NotRewritable",
    "InvalidSize",
    "InvalidIndex",
    "InvalidWord",
    "InvalidElement",
    "InvalidModel",
    "NestingTooDeep",
    "InvalidLabel",
    "LimitReached",
    "EmptyHistory",
]


def add_thirteen_labels():
    store = Store()
    for label in "abcdefghijklm":
        store.add(label, ())


# A call that raises each error, and its field.
RAISED = {
    "InvalidText": (lambda: parse_term("(x"), 2),
    "TooLarge": (lambda: Program("A=x^99").term("A"), 99),
    "InvalidStep": (lambda: apply_moves((1,), [("cancel", 0)]), 0),
    "DuplicateName": (lambda: Program("A=x;A=x"), "A"),
    "UnknownName": (lambda: Store().term("a"), "a"),
    "InvalidCommand": (lambda: Store().batch([("delete", "a"), ()]), 1),
    "InvalidSnapshot": (lambda: load("a x\nb"), 1),
    "InvalidTerm": (lambda: size_of(((),)), None),
    "InvalidPath": (lambda: expand((), "2"), None),
    "PathNotFound": (lambda: expand((), "0"), None),
    "NotRewritable": (lambda: expand((), ""), None),
    "InvalidSize": (lambda: count_terms(0), None),
    "InvalidIndex": (lambda: generated_values(((0,),), 1), None),
    "InvalidWord": (lambda: inverse((0,)), None),
    "InvalidElement": (lambda: Table(0).period(2), None),
    "InvalidModel": (lambda: first_violation(()), None),
    "NestingTooDeep": (lambda: Program("A=" + "(" * 31 + "x" + "x)" * 31), None),
    "InvalidLabel": (lambda: Store().add("A", ()), None),
    "LimitReached": (add_thirteen_labels, None),
    "EmptyHistory": (lambda: Store().undo(), None),
}


class ErrorTests(unittest.TestCase):
    def test_each_error_is_raised(self):
        self.assertEqual(sorted(RAISED), sorted([*WITH_FIELD, *WITHOUT_FIELD]))
        for name, (action, field) in RAISED.items():
            with self.subTest(name):
                with self.assertRaises(errors.TermError) as caught:
                    action()
                self.assertIs(type(caught.exception), getattr(errors, name))
                self.assertIsInstance(caught.exception, ValueError)
                fields = {} if field is None else {WITH_FIELD[name]: field}
                self.assertEqual(vars(caught.exception), fields)

    def test_there_are_twenty_errors_and_their_base(self):
        names = [name for name, value in vars(errors).items() if isinstance(value, type)]
        self.assertEqual(sorted(names), sorted(["TermError", *WITH_FIELD, *WITHOUT_FIELD]))
        self.assertEqual(len(names), 21)

    def test_base_is_a_value_error(self):
        self.assertEqual(errors.TermError.__bases__, (ValueError,))

    def test_each_error_is_a_direct_subclass(self):
        for name in [*WITH_FIELD, *WITHOUT_FIELD]:
            with self.subTest(name):
                self.assertEqual(getattr(errors, name).__bases__, (errors.TermError,))
                self.assertEqual(getattr(errors, name).__name__, name)

    def test_fields_are_set(self):
        for name, field in WITH_FIELD.items():
            for value in ("word", "") if field == "name" else (0, 7, 10**30):
                with self.subTest(name):
                    error = getattr(errors, name)(value)
                    self.assertEqual(vars(error), {field: value})
                    self.assertIsInstance(str(error), str)

    def test_sizes_of_any_magnitude(self):
        # Python does not write out a number of so many digits.
        error = errors.TooLarge(10**6000)
        self.assertEqual(vars(error), {"size": 10**6000})
        self.assertIsInstance(str(error) + repr(error), str)

    def test_errors_without_a_field_have_none(self):
        for name in WITHOUT_FIELD:
            with self.subTest(name):
                self.assertEqual(vars(getattr(errors, name)("words")), {})


if __name__ == "__main__":
    unittest.main()
