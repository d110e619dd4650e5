"""A store of labelled terms with history."""

from uponboth.errors import (
    DuplicateName, EmptyHistory, InvalidCommand, InvalidLabel, LimitReached, PathNotFound, TooLarge, UnknownName,
)
from uponboth.ordering import compared, sort_terms
from uponboth.rewriting import rewritten_term
from uponboth.terms import check_term, generators_in, is_term

MAX_LABELS = 12
MAX_LABEL = 8
LABEL_LETTERS = "abcdefghijklmnopqrstuvwxyz"


def is_label(label):
    return 1 <= len(label) <= MAX_LABEL and label.strip(LABEL_LETTERS) == ""


def check_new_label(contents, label):
    if not is_label(label):
        raise InvalidLabel("a label has 1 to 8 lowercase letters")
    if label in contents:
        raise DuplicateName(label)


def known_term(contents, label):
    if label not in contents:
        raise UnknownName(label)
    return contents[label]


def check_made_term(term):
    """Check the bounds of a term that was made from allowed ones."""
    if not is_term(term):
        raise TooLarge(generators_in(term))


def with_new(contents, label, term):
    if len(contents) >= MAX_LABELS:
        raise LimitReached("a store has at most 12 labels")
    return {**contents, label: term}


def after_add(contents, label, term):
    check_new_label(contents, label)
    check_term(term)
    return with_new(contents, label, term)


def after_combine(contents, label, left, right):
    check_new_label(contents, label)
    pair = (known_term(contents, left), known_term(contents, right))
    check_made_term(pair)
    return with_new(contents, label, pair)


def after_extract(contents, label, source, right):
    check_new_label(contents, label)
    term = known_term(contents, source)
    if term == ():
        raise PathNotFound("the generator has no operands")
    return with_new(contents, label, term[1] if right else term[0])


def after_rewrite(contents, label, path, contract):
    term = rewritten_term(known_term(contents, label), path, not contract)
    check_made_term(term)
    return {**contents, label: term}


def after_delete(contents, label):
    known_term(contents, label)
    return {other: contents[other] for other in contents if other != label}


# Each of these makes new contents and leaves the old ones as they are. So the
# history can keep the old ones, and a batch that fails leaves nothing behind.
CHANGES = {
    "add": after_add,
    "combine": after_combine,
    "extract": after_extract,
    "rewrite": after_rewrite,
    "delete": after_delete,
}
# How many items the tuple of a command has, with its name.
ITEMS = {"add": 3, "combine": 4, "extract": 4, "rewrite": 4, "delete": 2}


def is_command(command):
    return len(command) > 0 and command[0] in ITEMS and len(command) == ITEMS[command[0]]


def after_command(contents, command):
    change = CHANGES[command[0]]
    arguments = command[1:]
    return change(contents, *arguments)


class Store:
    """Maps labels to terms, and remembers what was there before each command."""

    def __init__(self):
        self.contents = {}
        self.past = []
        self.future = []

    def __len__(self):
        return len(self.contents)

    def __eq__(self, other):
        return isinstance(other, Store) and self.contents == other.contents

    def record(self, contents):
        """Take new contents as one entry of the history."""
        self.past.append(self.contents)
        self.future = []
        self.contents = contents

    def add(self, label, term):
        """Store a term."""
        self.record(after_add(self.contents, label, term))

    def combine(self, label, left, right):
        """Store the pair of two stored terms."""
        self.record(after_combine(self.contents, label, left, right))

    def extract(self, label, source, *, right=False):
        """Store the left operand of a stored term, or the right one."""
        self.record(after_extract(self.contents, label, source, right))

    def rewrite(self, label, path, *, contract=False):
        """Expand a stored term at a path, or contract it."""
        self.record(after_rewrite(self.contents, label, path, contract))

    def delete(self, label):
        """Remove a label and return its term."""
        term = known_term(self.contents, label)
        self.record(after_delete(self.contents, label))
        return term

    def batch(self, commands):
        """Run several commands as one: all of them, or none if one raises an error."""
        for position, command in enumerate(commands):
            if not is_command(command):
                raise InvalidCommand(position)
        contents = self.contents
        for command in commands:
            contents = after_command(contents, command)
        if len(commands) > 0:
            self.record(contents)

    def undo(self):
        """Revert the last entry of the history."""
        if len(self.past) == 0:
            raise EmptyHistory("there is nothing to undo")
        self.future.append(self.contents)
        self.contents = self.past.pop()

    def redo(self):
        """Repeat the entry that was reverted last."""
        if len(self.future) == 0:
            raise EmptyHistory("there is nothing to redo")
        self.past.append(self.contents)
        self.contents = self.future.pop()

    def history(self):
        """Return the numbers of entries that can be undone and redone."""
        return (len(self.past), len(self.future))

    def clone(self):
        """Return an independent store with the same contents and history."""
        twin = store_of(self.contents)
        twin.past = list(self.past)
        twin.future = list(self.future)
        return twin

    def term(self, label):
        """Return the term of a label."""
        return known_term(self.contents, label)

    def labels(self):
        """Return the list of labels in alphabetical order."""
        return sorted(self.contents)

    def classes(self):
        """Return the labels in lists of equal terms, the lists in ascending order of their terms."""
        labels = self.labels()
        groups = sort_terms([self.contents[label] for label in labels])
        return [[labels[index] for index in group] for group in groups]

    def equal_to(self, label):
        """Return the labels of all terms that are equal to the term of a label."""
        term = self.term(label)
        return [other for other in self.labels() if compared(term, self.contents[other]) == "equal"]

    def less_than(self, label):
        """Return the labels of all terms that are less than the term of a label, in the order of the classes."""
        term = self.term(label)
        labels = [other for group in self.classes() for other in group]
        return [other for other in labels if compared(self.contents[other], term) == "less"]

    def compare(self, one, other):
        """Compare the terms of two labels."""
        first = self.term(one)
        second = self.term(other)
        return compared(first, second)


def store_of(contents):
    """Return a store with these contents and an empty history."""
    store = Store()
    store.contents = {label: contents[label] for label in contents}
    return store
