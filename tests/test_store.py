"""The store: the promises [22] and [23] and the interface of uponboth/store.py."""

import copy
import itertools
import unittest

from tests import reference, store_reference
from tests.order_reference import result_of
from uponboth import errors
from uponboth.errors import EmptyHistory, InvalidCommand, LimitReached, TermError, UnknownName
from uponboth.ordering import compare, sort_terms
from uponboth.store import Store

PAIR = ((), ())
THREE = ((), PAIR)
LARGE = (reference.balanced(3), reference.balanced(2))
DEEP = reference.right_comb(7)
COMBS = (reference.left_comb(6), reference.right_comb(6))
TERMS = reference.allowed_terms(5) + [LARGE, DEEP, reference.left_comb(7), COMBS]
TWELVE = "abcdefghijkl"


def contents_of(store):
    return {label: store.term(label) for label in store.labels()}


def store_with(**terms):
    store = Store()
    for label, term in terms.items():
        store.add(label, term)
    return store


def full_store():
    return store_with(**{label: PAIR for label in TWELVE})


def run(store, command):
    """Run one command by its method, with its last argument by keyword if the method takes it so."""
    name, *arguments = command
    if name == "extract":
        return store.extract(arguments[0], arguments[1], right=arguments[2])
    if name == "rewrite":
        return store.rewrite(arguments[0], arguments[1], contract=arguments[2])
    return getattr(store, name)(*arguments)


class StoreTestCase(unittest.TestCase):
    def check_error(self, action, expected):
        """Check that a call raises the error of a failure with its field, and return nothing."""
        word, name, field = expected
        with self.assertRaises(TermError) as caught:
            action()
        self.assertIs(type(caught.exception), getattr(errors, name))
        if name in store_reference.FIELDS:
            self.assertEqual(vars(caught.exception), {store_reference.FIELDS[name]: field})
        else:
            self.assertEqual(vars(caught.exception), {})

    def check_unchanged(self, store, action, expected):
        """Check that a call raises an error and changes neither the contents nor the history."""
        before, entries = contents_of(store), store.history()
        self.check_error(action, expected)
        self.assertEqual(contents_of(store), before)
        self.assertEqual(store.history(), entries)


class CommandTests(StoreTestCase):
    def test_new_store(self):
        store = Store()
        self.assertEqual(len(store), 0)
        self.assertEqual(store.labels(), [])
        self.assertEqual(store.history(), (0, 0))
        self.assertEqual(store.classes(), [])

    def test_add(self):
        store = Store()
        for at, (label, term) in enumerate((("b", PAIR), ("a", ()), ("zzzzzzzz", LARGE), ("ab", DEEP))):
            self.assertIsNone(store.add(label, term))
            self.assertEqual(store.term(label), term)
            self.assertEqual(len(store), at + 1)
            self.assertEqual(store.history(), (at + 1, 0))
        self.assertEqual(store.labels(), ["a", "ab", "b", "zzzzzzzz"])

    def test_add_errors(self):
        store = store_with(a=PAIR)
        for wrong in store_reference.WRONG_LABELS:
            for term in ((), ((),)):
                self.check_unchanged(store, lambda: store.add(wrong, term), ("error", "InvalidLabel", None))
        for term in ((), ((),)):
            self.check_unchanged(store, lambda: store.add("a", term), ("error", "DuplicateName", "a"))
        for term in reference.WRONG_TERMS.values():
            self.check_unchanged(store, lambda: store.add("b", term), ("error", "InvalidTerm", None))
        full = full_store()
        self.check_unchanged(full, lambda: full.add("z", ()), ("error", "LimitReached", None))
        self.check_unchanged(full, lambda: full.add("z", ((),)), ("error", "InvalidTerm", None))
        self.check_unchanged(full, lambda: full.add("a", ()), ("error", "DuplicateName", "a"))
        self.check_unchanged(full, lambda: full.add("Z", ()), ("error", "InvalidLabel", None))

    def test_combine(self):
        store = store_with(a=PAIR, b=THREE)
        self.assertIsNone(store.combine("c", "a", "b"))
        self.assertEqual(store.term("c"), (PAIR, THREE))
        store.combine("d", "b", "b")
        self.assertEqual(store.term("d"), (THREE, THREE))
        self.assertEqual(store.history(), (4, 0))

    def test_combine_errors(self):
        store = store_with(a=LARGE, b=DEEP, c=())
        for wrong in store_reference.WRONG_LABELS:
            self.check_unchanged(store, lambda: store.combine(wrong, "y", "z"), ("error", "InvalidLabel", None))
        self.check_unchanged(store, lambda: store.combine("a", "y", "z"), ("error", "DuplicateName", "a"))
        self.check_unchanged(store, lambda: store.combine("d", "y", "z"), ("error", "UnknownName", "y"))
        self.check_unchanged(store, lambda: store.combine("d", "c", "z"), ("error", "UnknownName", "z"))
        self.check_unchanged(store, lambda: store.combine("d", "y", "c"), ("error", "UnknownName", "y"))
        self.check_unchanged(store, lambda: store.combine("d", "d", "c"), ("error", "UnknownName", "d"))
        # Size 13, then depth 7 with size 8, then both.
        self.check_unchanged(store, lambda: store.combine("d", "a", "c"), ("error", "TooLarge", 13))
        self.check_unchanged(store, lambda: store.combine("d", "c", "b"), ("error", "TooLarge", 8))
        self.check_unchanged(store, lambda: store.combine("d", "b", "c"), ("error", "TooLarge", 8))
        self.check_unchanged(store, lambda: store.combine("d", "a", "b"), ("error", "TooLarge", 19))
        full = full_store()
        self.check_unchanged(full, lambda: full.combine("z", "a", "b"), ("error", "LimitReached", None))
        self.check_unchanged(full, lambda: full.combine("z", "a", "y"), ("error", "UnknownName", "y"))
        full.delete("l")
        full.add("l", LARGE)
        self.check_unchanged(full, lambda: full.combine("z", "a", "l"), ("error", "TooLarge", 14))

    def test_extract(self):
        store = store_with(a=(PAIR, THREE))
        self.assertIsNone(store.extract("b", "a"))
        store.extract("c", "a", right=False)
        store.extract("d", "a", right=True)
        self.assertEqual([store.term(label) for label in "bcd"], [PAIR, PAIR, THREE])
        self.assertEqual(store.history(), (4, 0))
        with self.assertRaises(TypeError):
            store.extract("e", "a", True)

    def test_extract_errors(self):
        store = store_with(a=PAIR, b=())
        for right in (False, True):
            for wrong in store_reference.WRONG_LABELS:
                self.check_unchanged(store, lambda: store.extract(wrong, "z", right=right), ("error", "InvalidLabel", None))
            self.check_unchanged(store, lambda: store.extract("a", "z", right=right), ("error", "DuplicateName", "a"))
            self.check_unchanged(store, lambda: store.extract("c", "z", right=right), ("error", "UnknownName", "z"))
            self.check_unchanged(store, lambda: store.extract("c", "b", right=right), ("error", "PathNotFound", None))
        full = full_store()
        self.check_unchanged(full, lambda: full.extract("z", "a"), ("error", "LimitReached", None))
        self.check_unchanged(full, lambda: full.extract("z", "y"), ("error", "UnknownName", "y"))
        full.delete("l")
        full.add("l", ())
        self.check_unchanged(full, lambda: full.extract("z", "l"), ("error", "PathNotFound", None))

    def test_rewrite(self):
        store = store_with(a=((), THREE))
        self.assertIsNone(store.rewrite("a", "1"))
        self.assertEqual(store.term("a"), ((), (PAIR, PAIR)))
        store.rewrite("a", "1", contract=True)
        self.assertEqual(store.term("a"), ((), THREE))
        store.rewrite("a", "", contract=False)
        self.assertEqual(store.term("a"), (PAIR, THREE))
        self.assertEqual(store.history(), (4, 0))
        full = full_store()
        full.delete("a")
        full.add("a", THREE)
        full.rewrite("a", "")
        self.assertEqual(full.term("a"), (PAIR, PAIR))
        with self.assertRaises(TypeError):
            store.rewrite("a", "", True)

    def test_rewrite_errors(self):
        store = store_with(a=THREE, b=(LARGE[0], PAIR), c=(reference.left_comb(6), PAIR))
        for wrong in store_reference.WRONG_PATHS:
            for contract in (False, True):
                self.check_unchanged(
                    store, lambda: store.rewrite("z", wrong, contract=contract), ("error", "UnknownName", "z")
                )
                self.check_unchanged(
                    store, lambda: store.rewrite("a", wrong, contract=contract), ("error", "InvalidPath", None)
                )
        for path in ("00", "110", "0" * 60):
            self.check_unchanged(store, lambda: store.rewrite("a", path), ("error", "PathNotFound", None))
        for path, contract in (("0", False), ("1", False), ("", True), ("1", True), ("11", True)):
            self.check_unchanged(
                store, lambda: store.rewrite("a", path, contract=contract), ("error", "NotRewritable", None)
            )
        # The first result is within the depth, the second one is too deep also.
        self.check_unchanged(store, lambda: store.rewrite("b", ""), ("error", "TooLarge", 18))
        self.check_unchanged(store, lambda: store.rewrite("c", ""), ("error", "TooLarge", 14))

    def test_rewrite_to_a_term_that_is_too_deep_only(self):
        found = 0
        for term in reference.allowed_terms(9, 5):
            store = store_with(a=term)
            for path in reference.all_paths(term):
                result = reference.stepped(term, path, True)
                if result is not None and reference.size(result) <= 12 and reference.depth(result) > 6:
                    expected = ("error", "TooLarge", reference.size(result))
                    self.check_unchanged(store, lambda: store.rewrite("a", path), expected)
                    found += 1
        self.assertGreater(found, 3)

    def test_delete(self):
        store = store_with(a=PAIR, b=THREE)
        self.assertEqual(store.delete("a"), PAIR)
        self.assertEqual(store.labels(), ["b"])
        self.assertEqual(store.history(), (3, 0))
        self.check_unchanged(store, lambda: store.delete("a"), ("error", "UnknownName", "a"))
        for wrong in ("", "A", "c", "x" * 400):
            self.check_unchanged(store, lambda: store.delete(wrong), ("error", "UnknownName", wrong))
        self.assertEqual(store.delete("b"), THREE)
        self.assertEqual(len(store), 0)

    def test_unknown_labels(self):
        store = store_with(a=PAIR)
        for label in ("", "b", "A", "a ", "abcdefghi"):
            for query in (store.term, store.equal_to, store.less_than, store.delete):
                self.check_unchanged(store, lambda: query(label), ("error", "UnknownName", label))
            self.check_unchanged(store, lambda: store.compare(label, "a"), ("error", "UnknownName", label))
            self.check_unchanged(store, lambda: store.compare("a", label), ("error", "UnknownName", label))
        self.check_unchanged(store, lambda: store.compare("y", "z"), ("error", "UnknownName", "y"))


class BatchTests(StoreTestCase):
    def test_batches(self):
        store = Store()
        commands = [
            ("add", "a", THREE), ("combine", "b", "a", "a"), ("extract", "c", "b", True), ("extract", "d", "b", False),
            ("rewrite", "a", "", False), ("rewrite", "c", "", False), ("rewrite", "c", "", True), ("delete", "d"),
        ]
        kept = list(commands)
        self.assertIsNone(store.batch(commands))
        self.assertEqual(commands, kept)
        self.assertEqual(contents_of(store), {"a": (PAIR, PAIR), "b": (THREE, THREE), "c": THREE})
        self.assertEqual(store.history(), (1, 0))
        store.undo()
        self.assertEqual(len(store), 0)
        store.redo()
        self.assertEqual(contents_of(store), {"a": (PAIR, PAIR), "b": (THREE, THREE), "c": THREE})
        again = Store()
        again.batch(tuple(commands))
        self.assertEqual(again, store)

    def test_empty_batches(self):
        store = store_with(a=PAIR)
        store.undo()
        for empty in ([], ()):
            self.assertIsNone(store.batch(empty))
            self.assertEqual(store.history(), (0, 1))
        store.redo()
        self.assertEqual(store.labels(), ["a"])

    def test_batches_without_effect_are_entries(self):
        store = Store()
        store.batch([("add", "a", ()), ("delete", "a")])
        self.assertEqual(len(store), 0)
        self.assertEqual(store.history(), (1, 0))

    def test_all_or_nothing(self):
        good = [("add", "b", PAIR), ("combine", "c", "b", "b"), ("rewrite", "a", "", False), ("delete", "b")]
        for wrong, expected in (
            (("add", "B", ()), ("error", "InvalidLabel", None)),
            (("add", "a", ()), ("error", "DuplicateName", "a")),
            (("add", "z", ((),)), ("error", "InvalidTerm", None)),
            (("combine", "z", "a", "y"), ("error", "UnknownName", "y")),
            (("extract", "z", "g", True), ("error", "PathNotFound", None)),
            (("rewrite", "a", "2", True), ("error", "InvalidPath", None)),
            (("rewrite", "g", "", True), ("error", "NotRewritable", None)),
            (("combine", "z", "l", "l"), ("error", "TooLarge", 24)),
            (("delete", "z"), ("error", "UnknownName", "z")),
        ):
            for at in range(len(good) + 1):
                store = store_with(a=THREE, g=(), l=LARGE, u=())
                store.undo()
                commands = good[:at] + [wrong] + good[at:]
                self.check_unchanged(store, lambda: store.batch(commands), expected)
                self.assertEqual(store.history(), (3, 1))
                store.redo()
                self.assertEqual(store.labels(), ["a", "g", "l", "u"])

    def test_limit(self):
        commands = [("add", label, ()) for label in TWELVE]
        store = Store()
        store.batch(commands)
        self.assertEqual(len(store), 12)
        store = Store()
        self.check_unchanged(store, lambda: store.batch(commands + [("add", "z", ())]), ("error", "LimitReached", None))
        store.batch(commands + [("delete", "a"), ("add", "z", ())])
        self.assertEqual(len(store), 12)
        self.assertEqual(store.labels()[-1], "z")

    def test_wrong_commands(self):
        good = [("add", "b", PAIR), ("delete", "b")]
        bad = [("add", "B", ()), ("delete", "z")]
        for wrong in (
            (), ("add",), ("add", "b"), ("add", "b", (), ()), ("combine", "a", "b"), ("combine", "a", "b", "c", "d"),
            ("extract", "b", "a"), ("extract", "b", "a", True, True), ("rewrite", "a", ""), ("rewrite", "a"),
            ("rewrite", "a", "", True, True), ("delete",), ("delete", "a", "b"), ("undo",), ("redo",), ("batch", ()),
            ("batch",), ("", "a"), ("Add", "b", ()), ("add ", "b", ()), ("none", "a"), ("term", "a"), ("clone",),
        ):
            for before in ([], good, bad, good * 3):
                for behind in ([], good, bad, [()]):
                    store = store_with(a=THREE)
                    commands = before + [wrong] + behind
                    expected = ("error", "InvalidCommand", len(before))
                    self.check_unchanged(store, lambda: store.batch(commands), expected)
                    self.check_unchanged(store, lambda: store.batch(tuple(commands)), expected)

    def test_redo_history_stays_after_an_error(self):
        store = store_with(a=PAIR, b=())
        store.undo()
        with self.assertRaises(InvalidCommand):
            store.batch([()])
        with self.assertRaises(UnknownName):
            store.batch([("add", "c", ()), ("delete", "b")])
        self.assertEqual(store.history(), (1, 1))
        store.redo()
        self.assertEqual(store.labels(), ["a", "b"])


class HistoryTests(StoreTestCase):
    def test_both_ends(self):
        store = Store()
        for action in (store.undo, store.redo):
            self.check_unchanged(store, action, ("error", "EmptyHistory", None))
        store.add("a", PAIR)
        self.check_unchanged(store, store.redo, ("error", "EmptyHistory", None))
        self.assertIsNone(store.undo())
        self.check_unchanged(store, store.undo, ("error", "EmptyHistory", None))
        self.assertIsNone(store.redo())
        self.check_unchanged(store, store.redo, ("error", "EmptyHistory", None))
        self.assertEqual(store.term("a"), PAIR)

    def test_every_command_is_reverted(self):
        store = Store()
        states = [contents_of(store)]
        for command in (
            ("add", "a", THREE), ("combine", "b", "a", "a"), ("extract", "c", "b", True), ("rewrite", "a", "", False),
            ("rewrite", "a", "", True), ("delete", "b"), ("add", "b", ()), ("delete", "c"),
        ):
            run(store, command)
            states.append(contents_of(store))
        store.batch([("add", "z", ()), ("delete", "a")])
        states.append(contents_of(store))
        for at in range(len(states) - 1, 0, -1):
            self.assertEqual(contents_of(store), states[at])
            self.assertEqual(store.history(), (at, len(states) - 1 - at))
            store.undo()
        for at in range(len(states) - 1):
            self.assertEqual(contents_of(store), states[at])
            store.redo()
        self.assertEqual(contents_of(store), states[-1])
        self.assertEqual(store.history(), (len(states) - 1, 0))

    def test_new_commands_empty_the_redo_history(self):
        for command in (
            ("add", "z", ()), ("combine", "z", "a", "a"), ("extract", "z", "a", False), ("rewrite", "a", "", False),
            ("delete", "a"),
        ):
            for many in (1, 2):
                store = store_with(a=THREE, b=(), c=())
                for time in range(many):
                    store.undo()
                run(store, command)
                self.assertEqual(store.history(), (4 - many, 0))
                with self.assertRaises(EmptyHistory):
                    store.redo()
        store = store_with(a=THREE, b=())
        store.undo()
        store.batch([("add", "z", ())])
        self.assertEqual(store.history(), (2, 0))

    def test_queries_keep_the_redo_history(self):
        store = store_with(a=THREE, b=(PAIR, PAIR), c=())
        store.undo()
        for time in range(2):
            answers = [
                store.term("a"), store.labels(), store.classes(), store.equal_to("a"), store.less_than("b"),
                store.compare("a", "b"), store.history(), len(store), store == store.clone(),
            ]
            self.assertEqual(answers, [THREE, ["a", "b"], [["a", "b"]], ["a", "b"], [], "equal", (2, 1), 2, True])

    def test_long_histories(self):
        store = store_with(a=THREE)
        for time in range(200):
            store.rewrite("a", "", contract=time % 2 == 1)
        self.assertEqual(store.history(), (201, 0))
        for time in range(201):
            store.undo()
        self.assertEqual(store.history(), (0, 201))
        self.assertEqual(len(store), 0)


class CloneTests(StoreTestCase):
    def test_clones_are_independent(self):
        store = store_with(a=THREE, b=(), c=PAIR)
        store.undo()
        twin = store.clone()
        again = twin.clone()
        for copied in (twin, again):
            self.assertIsInstance(copied, Store)
            self.assertEqual(copied, store)
            self.assertEqual(copied.history(), (2, 1))
        twin.redo()
        twin.rewrite("a", "")
        twin.add("d", ())
        self.assertEqual(contents_of(store), {"a": THREE, "b": ()})
        self.assertEqual(store.history(), (2, 1))
        self.assertEqual(again.history(), (2, 1))
        self.assertNotEqual(twin, store)
        store.delete("a")
        store.batch([("add", "z", ()), ("delete", "b")])
        self.assertEqual(twin.labels(), ["a", "b", "c", "d"])
        again.undo()
        again.undo()
        self.assertEqual(len(again), 0)
        self.assertEqual(store.labels(), ["z"])
        again.redo()
        again.redo()
        again.redo()
        self.assertEqual(contents_of(again), {"a": THREE, "b": (), "c": PAIR})
        self.assertEqual(twin.history(), (5, 0))

    def test_stores_are_independent(self):
        one, other = Store(), Store()
        one.add("a", ())
        self.assertEqual(len(other), 0)
        self.assertEqual(other.history(), (0, 0))


class EqualityTests(StoreTestCase):
    def test_contents_decide(self):
        one = store_with(a=THREE, b=())
        other = store_with(b=(), a=THREE)
        self.assertIs(one == other, True)
        self.assertIs(one != other, False)
        other.rewrite("a", "")
        # The terms are equal, but they are not identical.
        self.assertIs(one == other, False)
        other.undo()
        self.assertIs(one == other, True)
        other.delete("b")
        self.assertIs(one == other, False)
        self.assertIs(store_with(a=()) == store_with(b=()), False)
        self.assertIs(Store() == Store(), True)

    def test_other_values(self):
        store = store_with(a=())
        for other in ({"a": ()}, {}, None, 0, "a", ["a"], ("a",), object()):
            self.assertIs(store == other, False)
            self.assertIs(other == store, False)
            self.assertIs(Store() == other, False)

    def test_changing_returned_lists_has_no_effect(self):
        store = store_with(a=THREE, b=(PAIR, PAIR), c=())
        before = contents_of(store)
        for query in (store.labels, store.classes, lambda: store.equal_to("a"), lambda: store.less_than("a")):
            expected = copy.deepcopy(query())
            changed = query()
            self.assertIs(type(changed), list)
            if changed and type(changed[0]) is list:
                changed[0].append("z")
            changed.append("y")
            changed.reverse()
            self.assertEqual(query(), expected)
            self.assertEqual(contents_of(store), before)
        self.assertIs(type(store.history()), tuple)


class OrderTests(StoreTestCase):
    def check_order(self, store):
        contents = contents_of(store)
        classes = store.classes()
        self.assertEqual(classes, store_reference.sorted_classes(contents))
        labels = store.labels()
        groups = sort_terms([contents[label] for label in labels])
        self.assertEqual(classes, [[labels[at] for at in group] for group in groups])
        flat = list(itertools.chain(*classes))
        for one in labels:
            results = {label: result_of(contents[label], contents[one]) for label in labels}
            self.assertEqual(store.equal_to(one), [label for label in labels if results[label] == "equal"])
            self.assertEqual(store.less_than(one), [label for label in flat if results[label] == "less"])
            for other in labels:
                self.assertEqual(store.compare(one, other), compare(contents[one], contents[other]))

    def test_fixed_stores(self):
        store = store_with(d=(PAIR, PAIR), b=THREE, a=PAIR, c=(), e=(), z=(PAIR, ()))
        self.assertEqual(store.classes(), [["c", "e"], ["a"], ["z"], ["b", "d"]])
        self.assertEqual(store.equal_to("d"), ["b", "d"])
        self.assertEqual(store.less_than("d"), ["c", "e", "a", "z"])
        self.assertEqual(store.less_than("c"), [])
        self.assertEqual(store.compare("c", "a"), "less")
        self.check_order(store)

    def test_any_history(self):
        for seed in range(25):
            choices = store_reference.Choices(seed, TERMS)
            store = Store()
            contents = {}
            for time in range(20):
                command = choices.command(contents)
                result = store_reference.after(contents, command)
                if not store_reference.failed(result):
                    run(store, command)
                    contents = result
            self.assertEqual(contents_of(store), contents)
            self.check_order(store)
            again = store_with(**{label: contents[label] for label in reversed(store.labels())})
            self.assertEqual(again.classes(), store.classes())

    def test_rewriting_keeps_the_classes(self):
        store = store_with(a=THREE, b=(PAIR, PAIR), c=((), THREE), d=(PAIR, THREE), e=PAIR)
        classes = store.classes()
        for label, path, contract in (("a", "", False), ("b", "", True), ("c", "1", False), ("d", "1", False)):
            store.rewrite(label, path, contract=contract)
            self.assertEqual(store.classes(), classes)
        for time in range(4):
            store.undo()
            self.assertEqual(store.classes(), classes)
        self.check_order(store)

    def test_terms_that_differ_from_all_others(self):
        store = store_with(**{label: term for label, term in zip(TWELVE, reference.allowed_terms(4) + [LARGE, DEEP])})
        self.check_order(store)


class RandomTests(StoreTestCase):
    """Commands without a pattern against the plain versions, with the history as a list of contents."""

    def check_state(self, store, states, at):
        self.assertEqual(contents_of(store), states[at])
        self.assertEqual(store.labels(), sorted(states[at]))
        self.assertEqual(len(store), len(states[at]))
        self.assertEqual(store.history(), (at, len(states) - 1 - at))

    def move(self, store, states, at, action, by):
        if 0 <= at + by < len(states):
            action()
            return at + by
        self.check_error(action, ("error", "EmptyHistory", None))
        return at

    def test_commands(self):
        told = {}
        for seed in range(60):
            choices = store_reference.Choices(seed, TERMS)
            store = Store()
            states, at = [{}], 0
            for time in range(50):
                kind = choices.choice.random()
                if kind < 0.1:
                    at = self.move(store, states, at, store.undo, -1)
                elif kind < 0.2:
                    at = self.move(store, states, at, store.redo, 1)
                elif kind < 0.3:
                    commands = choices.batch(states[at])
                    kept = list(commands)
                    result = store_reference.after_batch(states[at], commands)
                    if store_reference.failed(result):
                        self.check_error(lambda: store.batch(commands), result)
                    else:
                        self.assertIsNone(store.batch(commands))
                    self.assertEqual(commands, kept)
                    if commands and not store_reference.failed(result):
                        states, at = states[: at + 1] + [result], at + 1
                else:
                    command = choices.command(states[at])
                    result = store_reference.after(states[at], command)
                    name = result[1] if store_reference.failed(result) else "done"
                    told[command[0], name] = told.get((command[0], name), 0) + 1
                    if store_reference.failed(result):
                        self.check_error(lambda: run(store, command), result)
                    else:
                        answer = run(store, command)
                        self.assertEqual(answer, states[at][command[1]] if command[0] == "delete" else None)
                        states, at = states[: at + 1] + [result], at + 1
                self.check_state(store, states, at)
        self.assertGreater(min(told.values()), 0)
        for key in (("add", "LimitReached"), ("combine", "TooLarge"), ("rewrite", "TooLarge"), ("extract", "PathNotFound")):
            self.assertGreater(told[key], 0)

    def test_full_stores(self):
        full = full_store()
        for name, arguments in (("add", ("z", ())), ("combine", ("z", "a", "b")), ("extract", ("z", "a"))):
            with self.assertRaises(LimitReached):
                getattr(full, name)(*arguments)
        full.delete("a")
        full.extract("z", "b")
        self.assertEqual(len(full), 12)


if __name__ == "__main__":
    unittest.main()
