"""The console: the promise [25] and the interface of uponboth/console.py."""

import unittest

from tests import order_reference, reference, store_reference
from tests.console_reference import PlainConsole, damaged_line, random_line
from uponboth.console import Console
from uponboth.store import Store

PAIR = ((), ())
THREE = ((), PAIR)
LARGE = reference.text((reference.balanced(3), reference.balanced(2)))
DEEP = reference.text(reference.right_comb(7))
TERMS = reference.allowed_terms(5) + [(reference.balanced(3), reference.balanced(2)), reference.right_comb(7)]


def executed(lines, store=None):
    """A console after some lines."""
    console = Console(store)
    for line in lines:
        console.execute(line)
    return console


class AnswerTests(unittest.TestCase):
    def check_lines(self, *lines):
        """Check the answers of a new console to lines, each given with its answer."""
        console = Console()
        for line, answer in lines:
            with self.subTest(line):
                self.assertEqual(console.execute(line), answer)
        self.assertEqual(console.transcript(), list(lines))
        return console

    def test_commands(self):
        console = self.check_lines(
            ("add a (x(xx))", "ok"),
            ("combine b a a", "ok"),
            ("left c b", "ok"),
            ("right d b", "ok"),
            ("expand a -", "ok"),
            ("show a", "((xx)(xx))"),
            ("contract a -", "ok"),
            ("show a", "(x(xx))"),
            ("expand b 1", "ok"),
            ("show b", "((x(xx))((xx)(xx)))"),
            ("contract b 1", "ok"),
            ("delete d", "ok"),
            ("show d", "error UnknownName"),
            ("undo", "ok"),
            ("show d", "(x(xx))"),
            ("redo", "ok"),
            ("redo", "error EmptyHistory"),
            ("show d", "error UnknownName"),
        )
        self.assertEqual(console.store().labels(), ["a", "b", "c"])
        self.assertEqual(console.store().history(), (9, 0))

    def test_queries(self):
        self.check_lines(
            ("order", "none"),
            ("add b (xx)", "ok"),
            ("order", "b"),
            ("add a x", "ok"),
            ("add c x", "ok"),
            ("add d (x(xx))", "ok"),
            ("add e ((xx)(xx))", "ok"),
            ("order", "a=c < b < d=e"),
            ("compare a b", "less"),
            ("compare b a", "greater"),
            ("compare d e", "equal"),
            ("compare a a", "equal"),
            ("separate a b", "1: 1 2"),
            ("separate b a", "1: 2 1"),
            ("separate d e", "none"),
            ("separate d d", "none"),
            ("separate a d", "1: 1 2"),
            ("separate b d", "2: 2 4"),
            ("separate d b", "2: 4 2"),
            ("value a 0", "1"),
            ("value b 0", "1"),
            ("value b 2", "2"),
            ("value d 9", "12"),
        )

    def test_values_of_all_digits(self):
        console = executed(["add a ((x(xx))((xx)x))"])
        term = (THREE, (PAIR, ()))
        for digit in range(10):
            self.assertEqual(console.execute(f"value a {digit}"), str(order_reference.table_value(digit, term)))
        for word in ("10", "00", "-1", "+1", "a", "x", "1.", "1\n", "-", "99999"):
            self.assertEqual(console.execute(f"value a {word}"), "invalid")
            # The line is malformed, so nobody looks for the label.
            self.assertEqual(console.execute(f"value z {word}"), "invalid")
        self.assertEqual(console.execute("value z 1"), "error UnknownName")

    def test_errors(self):
        self.check_lines(
            ("undo", "error EmptyHistory"),
            ("redo", "error EmptyHistory"),
            ("show a", "error UnknownName"),
            ("delete a", "error UnknownName"),
            ("compare a b", "error UnknownName"),
            ("separate a b", "error UnknownName"),
            ("value a 3", "error UnknownName"),
            ("expand a -", "error UnknownName"),
            ("expand a 2", "error UnknownName"),
            ("combine b a a", "error UnknownName"),
            ("left b a", "error UnknownName"),
            ("add A x", "error InvalidLabel"),
            ("add a1 x", "error InvalidLabel"),
            ("add abcdefghi x", "error InvalidLabel"),
            ("add a y", "error InvalidText"),
            ("add a (x)", "error InvalidText"),
            ("add a ((((((((xx)x)x)x)x)x)x)x)", "error InvalidTerm"),
            ("add a x", "ok"),
            ("add a x", "error DuplicateName"),
            ("combine a b c", "error DuplicateName"),
            ("left b a", "error PathNotFound"),
            ("right b a", "error PathNotFound"),
            ("expand a -", "error NotRewritable"),
            ("contract a -", "error NotRewritable"),
            ("expand a 0", "error PathNotFound"),
            ("expand a 2", "error InvalidPath"),
            ("contract a --", "error InvalidPath"),
            ("expand a 0-", "error InvalidPath"),
            ("expand a " + "0" * 60, "error PathNotFound"),
            ("expand a " + "0" * 61, "error InvalidPath"),
            (f"add b {LARGE}", "ok"),
            (f"add c {DEEP}", "ok"),
            ("combine d b a", "error TooLarge"),
            ("combine d c a", "error TooLarge"),
            ("expand b -", "error TooLarge"),
            ("compare a z", "error UnknownName"),
            ("separate z a", "error UnknownName"),
            ("undo", "ok"),
            ("undo", "ok"),
            ("undo", "ok"),
            ("undo", "error EmptyHistory"),
        )

    def test_order_of_errors_in_add(self):
        lines = [f"add {label} x" for label in "abcdefghijkl"]
        for before, full in (([], False), (lines, True)):
            console = executed(before or ["add a x"])
            for label, error in (("A", "InvalidLabel"), ("a", "DuplicateName")):
                for text in ("x", "y", "(x", DEEP, "((((((((xx)x)x)x)x)x)x)x)"):
                    self.assertEqual(console.execute(f"add {label} {text}"), f"error {error}")
            self.assertEqual(console.execute("add z y"), "error InvalidText")
            self.assertEqual(console.execute("add z (x(x"), "error InvalidText")
            self.assertEqual(console.execute("add z ((((((((xx)x)x)x)x)x)x)x)"), "error InvalidTerm")
            self.assertEqual(console.execute("add z x"), "error LimitReached" if full else "ok")
            self.assertEqual(console.execute("combine y a a"), "error LimitReached" if full else "ok")
            self.assertEqual(console.execute("left w b"), "error PathNotFound" if full else "error UnknownName")

    def test_limit(self):
        console = executed([f"add {label} (xx)" for label in "abcdefghijkl"])
        for line in ("add z x", "combine z a b", "left z a", "right z a"):
            self.assertEqual(console.execute(line), "error LimitReached")
        self.assertEqual(console.execute("order"), "=".join("abcdefghijkl"))

    def test_malformed_lines(self):
        console = executed(["add a (x(xx))", "add b x", "undo"])
        before = console.store()
        for line in (
            "", " ", "  ", "\n", "add", "add c", "add  c x", "add c  x", " add c x", "add c x ", "add c x x", "add c\nx",
            "combine c a", "combine c a a a", "left c", "left c a a", "right c", "expand a", "expand a ", "expand a  ",
            "expand a - -", "contract a", "delete", "delete a b", "undo ", " undo", "undo undo", "redo a", "Redo", "redo\n",
            "show", "show a a", "show a ", "order a", "order ", " order", "compare a", "compare a a a", "value a",
            "value a 1 1", "value 1", "separate a", "separate a a a", "extract c a", "rewrite a", "rewrite a -",
            "batch", "history", "term a", "ADD c x", "Add c x", "unknown", "a", "-", "clone", "add,c,x", "invalid", "none",
            "labels", "classes", "transcript", "store", "adds c x", "ad c x",
        ):
            with self.subTest(line):
                self.assertEqual(console.execute(line), "invalid")
                self.assertEqual(console.store(), before)
                self.assertEqual(console.store().history(), (1, 1))

    def test_line_feeds_inside_words(self):
        console = executed(["add a x"])
        self.assertEqual(console.execute("add b\n x"), "error InvalidLabel")
        self.assertEqual(console.execute("add b x\n"), "error InvalidText")
        self.assertEqual(console.execute("show a\n"), "error UnknownName")
        self.assertEqual(console.execute("expand a -\n"), "error InvalidPath")

    def test_words_that_are_commands_too(self):
        self.check_lines(
            ("add add x", "ok"),
            ("add order (xx)", "ok"),
            ("compare add order", "less"),
            ("order", "add < order"),
            ("delete order", "ok"),
            ("show order", "error UnknownName"),
        )


class StoreTests(unittest.TestCase):
    def test_the_passed_store_does_not_change(self):
        store = Store()
        store.add("a", THREE)
        store.add("b", ())
        store.undo()
        kept = store.clone()
        console = Console(store)
        self.assertEqual(console.store(), store)
        self.assertEqual(console.store().history(), (1, 1))
        for line in ("redo", "undo", "undo", "redo", "expand a -", "add z x", "delete a", "order"):
            console.execute(line)
        self.assertEqual(store, kept)
        self.assertEqual(store.history(), (1, 1))
        store.add("c", ())
        self.assertEqual(console.store().labels(), ["z"])

    def test_the_returned_store_is_a_clone(self):
        console = executed(["add a x", "add b x", "undo"])
        store = console.store()
        self.assertIsInstance(store, Store)
        self.assertEqual(store.history(), (1, 1))
        store.redo()
        store.add("c", ())
        self.assertEqual(console.execute("order"), "a")
        self.assertEqual(console.store().labels(), ["a"])
        self.assertEqual(console.store().history(), (1, 1))

    def test_empty_store_and_none(self):
        store = Store()
        for console in (Console(), Console(None), Console(store), Console(store=store)):
            self.assertEqual(console.execute("add a x"), "ok")
            self.assertEqual(len(store), 0)
        store = Store()
        store.add("a", ())
        store.undo()
        # An empty store may have something to redo.
        self.assertEqual(Console(store).execute("redo"), "ok")

    def test_consoles_are_independent(self):
        one, other = Console(), Console()
        one.execute("add a x")
        self.assertEqual(other.execute("order"), "none")
        self.assertEqual(one.transcript(), [("add a x", "ok")])
        self.assertEqual(other.transcript(), [("order", "none")])


class TranscriptTests(unittest.TestCase):
    def test_all_lines(self):
        console = Console()
        self.assertEqual(console.transcript(), [])
        said = []
        for line in ("add a x", "", "show b", "order", "undo", "undo", "a  b", "add a x"):
            said.append((line, console.execute(line)))
            self.assertEqual(console.transcript(), said)
        self.assertIs(type(console.transcript()), list)
        self.assertIs(type(console.transcript()[0]), tuple)

    def test_changing_the_list_has_no_effect(self):
        console = executed(["add a x"])
        changed = console.transcript()
        changed.append(("x", "y"))
        changed[0] = ()
        self.assertEqual(console.transcript(), [("add a x", "ok")])


class RandomTests(unittest.TestCase):
    def test_lines(self):
        answers = set()
        for seed in range(60):
            choices = store_reference.Choices(seed, TERMS)
            plain, console = PlainConsole(), Console()
            for time in range(50):
                line = random_line(choices, plain.present())
                if choices.choice.random() < 0.08:
                    line = damaged_line(choices, line)
                expected = plain.answer(line)
                self.assertEqual(console.execute(line), expected, line)
                answers.add(expected)
            store = console.store()
            self.assertEqual({label: store.term(label) for label in store.labels()}, plain.present())
            self.assertEqual(store.history(), (plain.at, len(plain.states) - 1 - plain.at))
            self.check_replays(console)
        for name in (
            "InvalidLabel", "DuplicateName", "UnknownName", "InvalidText", "InvalidTerm", "InvalidPath", "PathNotFound",
            "NotRewritable", "TooLarge", "LimitReached", "EmptyHistory",
        ):
            self.assertIn(f"error {name}", answers)

    def check_replays(self, console):
        """Check a console with the same lines, and one with the successful lines only."""
        said = console.transcript()
        again = executed([line for line, answer in said])
        self.assertEqual(again.transcript(), said)
        good = [(line, answer) for line, answer in said if answer != "invalid" and not answer.startswith("error ")]
        third = executed([line for line, answer in good])
        self.assertEqual(third.transcript(), good)
        for other in (again, third):
            self.assertEqual(other.store(), console.store())
            self.assertEqual(other.store().history(), console.store().history())


if __name__ == "__main__":
    unittest.main()
