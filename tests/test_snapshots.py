"""Snapshots: the promise [24] and the interface of uponboth/snapshots.py."""

import random
import re
import unittest

from tests import reference, store_reference
from uponboth.errors import InvalidSnapshot
from uponboth.snapshots import dump, load
from uponboth.store import Store

PAIR = ((), ())
TERMS = reference.allowed_terms(5) + [(reference.left_comb(6), reference.right_comb(6)), reference.balanced(3)]
LABELS = ["a", "aa", "ab", "abcdefgh", "b", "c", "d", "x", "y", "z", "zz", "zzzzzzzz"]
SIGNS = "ax()zAB0 \n~-"


def first_wrong_row(text):
    """The index of the first wrong row by [24], or None."""
    before = ""
    rows = re.findall(r"[^\n]*\n|[^\n]+$", text)
    for at, row in enumerate(rows):
        form = re.fullmatch(r"([a-z]{1,8}) ([x()]+)\n", row)
        if form is None or form[1] <= before or at == 12:
            return at
        if not reference.is_text(form[2]) or not reference.allowed(reference.term_of(form[2])):
            return at
        before = form[1]
    return None


def random_store(seed, many):
    """A store after some commands, and its contents."""
    choices = store_reference.Choices(seed, TERMS)
    store = Store()
    contents = {}
    for time in range(many):
        command = choices.command(contents)
        result = store_reference.after(contents, command)
        if not store_reference.failed(result):
            store.batch([command])
            contents = result
    return store, contents


def snapshot_of(contents):
    return "".join(f"{label} {reference.text(contents[label])}\n" for label in sorted(contents))


class DumpTests(unittest.TestCase):
    def test_stores(self):
        for seed in range(60):
            store, contents = random_store(seed, seed % 21)
            history = store.history()
            text = dump(store)
            self.assertEqual(text, snapshot_of(contents))
            self.assertEqual(store.history(), history)
            self.assertEqual(dump(store), text)

    def test_empty_store(self):
        self.assertEqual(dump(Store()), "")

    def test_history_does_not_matter(self):
        store = Store()
        store.add("b", ())
        store.add("a", PAIR)
        store.undo()
        self.assertEqual(dump(store), "b x\n")


class LoadTests(unittest.TestCase):
    def check_text(self, text):
        """Check a text that may be a snapshot or not."""
        row = first_wrong_row(text)
        if row is None:
            store = load(text)
            self.assertEqual(dump(store), text)
            return True
        with self.assertRaises(InvalidSnapshot) as caught:
            load(text)
        self.assertEqual(vars(caught.exception), {"row": row})
        return False

    def test_stores(self):
        for seed in range(60):
            store, contents = random_store(seed, seed % 21)
            history = store.history()
            loaded = load(dump(store))
            self.assertIsInstance(loaded, Store)
            self.assertEqual(loaded, store)
            self.assertEqual({label: loaded.term(label) for label in loaded.labels()}, contents)
            self.assertEqual(loaded.history(), (0, 0))
            if len(loaded) < 12:
                loaded.add("w", ())
                self.assertNotEqual(loaded, store)
                loaded.undo()
            self.assertEqual(loaded, store)
            self.assertEqual(store.history(), history)

    def test_empty_text(self):
        self.assertEqual(load(""), Store())
        self.assertEqual(load("").history(), (0, 0))

    def test_fixed_rows(self):
        for text, row in (
            ("\n", 0), (" ", 0), ("a", 0), ("a x", 0), ("a\n", 0), ("a \n", 0), (" x\n", 0), ("a  x\n", 0), ("a x \n", 0),
            (" a x\n", 0), ("A x\n", 0), ("a1 x\n", 0), ("abcdefghi x\n", 0), ("a X\n", 0), ("a (x)\n", 0), ("a xx\n", 0),
            ("a (xx\n", 0), ("a (xx))\n", 0), ("a x\n\n", 1), ("\na x\n", 0), ("a x\na x\n", 1), ("b x\na x\n", 1),
            ("a x\nb x", 1), ("a x\nb x\nc", 2), ("a x\nb x\n ", 2), ("a x\nb\nc x\n", 1), ("a x\n\nb x\n", 1),
            ("ab x\na x\n", 1), ("a x\nab x\naa x\n", 2), ("a x\nB x\n", 1), ("a x y\n", 0), ("a\nx\n", 0), ("ax\n", 0),
            ("a x\nb " + reference.text(reference.left_comb(8)) + "\n", 1),
            ("a " + reference.text(reference.balanced(4)) + "\n", 0),
            ("a " + "(" * 3990 + "\n", 0), ("a " + "x" * 3990 + "\n", 0),
        ):
            with self.subTest(text):
                self.assertEqual(first_wrong_row(text), row)
                self.assertFalse(self.check_text(text))

    def test_terms_in_rows(self):
        for name, wrong in reference.WRONG_TERMS.items():
            if name.startswith("very") or name == "a long chain":
                continue
            text = f"a x\nb {reference.text(wrong)}\n"
            with self.subTest(name), self.assertRaises(InvalidSnapshot) as caught:
                load(text)
            self.assertEqual(caught.exception.row, 1)
        for term in TERMS:
            self.assertEqual(load(f"a {reference.text(term)}\n").term("a"), term)

    def test_thirteenth_row(self):
        rows = [f"{label} x\n" for label in LABELS]
        self.assertEqual(load("".join(rows)).labels(), LABELS)
        # Thirteen rows, the last one right in itself, wrong, empty, or unfinished.
        first = ["a x\n", *[f"b{label} x\n" for label in "abcdefghijk"]]
        for more in ("c x\n", "A x\n", "\n", "c x", "c", "c x\nd x\n", "a x\n"):
            with self.assertRaises(InvalidSnapshot) as caught:
                load("".join(first) + more)
            self.assertEqual(caught.exception.row, 12)
        with self.assertRaises(InvalidSnapshot) as caught:
            load("".join(first[:5] + ["a x\n"] + first[5:] + ["c x\n"]))
        self.assertEqual(caught.exception.row, 5)

    def test_largest_snapshot(self):
        term = (reference.left_comb(6), reference.right_comb(6))
        store = Store()
        for letter in "abcdefghijkl":
            store.add(letter * 8, term)
        self.assertEqual(load(dump(store)), store)

    def test_changed_texts(self):
        choice = random.Random(1)
        told = {True: 0, False: 0}
        for seed in range(80):
            store, contents = random_store(seed, 12)
            text = dump(store)
            for time in range(8):
                at = choice.randint(0, len(text))
                sign = choice.choice(SIGNS)
                for middle in ("", sign):
                    for rest in (text[at:], text[at + 1 :], ""):
                        told[self.check_text(text[:at] + middle + rest)] += 1
        self.assertGreater(min(told.values()), 50)

    def test_swapped_rows(self):
        for seed in range(20):
            store, contents = random_store(seed, 15)
            rows = dump(store).splitlines(keepends=True)
            for at in range(len(rows) - 1):
                swapped = rows[:at] + [rows[at + 1], rows[at]] + rows[at + 2 :]
                with self.assertRaises(InvalidSnapshot) as caught:
                    load("".join(swapped))
                self.assertEqual(caught.exception.row, at + 1)

    def test_loaded_stores_are_independent(self):
        text = "a x\nb (xx)\n"
        one, other = load(text), load(text)
        one.delete("a")
        self.assertEqual(other.labels(), ["a", "b"])
        self.assertEqual(load(text).labels(), ["a", "b"])


if __name__ == "__main__":
    unittest.main()
