"""Slow and plain versions of what the package does with stores, snapshots and lines, and commands for the tests.

A failure is a tuple ("error", name of the error, its field or None). Nothing here imports the package.
"""

import random
import re

from tests import order_reference, reference

WRONG_LABELS = ("", "A", "aB", "a1", "a b", " a", "a ", "a\n", "\na", "a_b", "abcdefghi", "x" * 400, "-", "~")
WRONG_PATHS = ("2", "0a", "a0", "0 1", " ", "0" * 61, "1" * 100, "x", "-", "0\n", "\n")
FIELDS = {"TooLarge": "size", "DuplicateName": "name", "UnknownName": "name", "InvalidCommand": "position"}
LABELS = ("a", "b", "c", "ab", "abc", "z", "abcdefgh", "zzzzzzzz", "m", "n", "o", "p", "q", "r", "s")


def failed(result):
    return isinstance(result, tuple)


def new_label(contents, label):
    if not re.fullmatch("[a-z]{1,8}", label):
        return ("error", "InvalidLabel", None)
    if label in contents:
        return ("error", "DuplicateName", label)
    return None


def unknown(contents, *labels):
    for label in labels:
        if label not in contents:
            return ("error", "UnknownName", label)
    return None


def too_large(term):
    return None if reference.allowed(term) else ("error", "TooLarge", reference.size(term))


def stored(contents, label, term):
    return ("error", "LimitReached", None) if len(contents) == 12 else {**contents, label: term}


def is_allowed(term):
    # Some of the wrong ones are nested too deep to be compared.
    return not any(term is wrong for wrong in reference.WRONG_TERMS.values()) and reference.allowed(term)


def after_add(contents, label, term):
    if new_label(contents, label):
        return new_label(contents, label)
    if not is_allowed(term):
        return ("error", "InvalidTerm", None)
    return stored(contents, label, term)


def after_combine(contents, label, left, right):
    error = new_label(contents, label) or unknown(contents, left, right)
    if error:
        return error
    pair = (contents[left], contents[right])
    return too_large(pair) or stored(contents, label, pair)


def after_extract(contents, label, source, right):
    error = new_label(contents, label) or unknown(contents, source)
    if error:
        return error
    if contents[source] == ():
        return ("error", "PathNotFound", None)
    return stored(contents, label, contents[source][1 if right else 0])


def after_rewrite(contents, label, path, contract):
    if unknown(contents, label):
        return unknown(contents, label)
    if not set(path) <= {"0", "1"} or len(path) > 60:
        return ("error", "InvalidPath", None)
    term = contents[label]
    if path not in reference.all_paths(term):
        return ("error", "PathNotFound", None)
    result = reference.stepped(term, path, not contract)
    if result is None:
        return ("error", "NotRewritable", None)
    return too_large(result) or {**contents, label: result}


def after_delete(contents, label):
    if unknown(contents, label):
        return unknown(contents, label)
    contents = dict(contents)
    del contents[label]
    return contents


AFTER = {
    "add": (after_add, 3),
    "combine": (after_combine, 4),
    "extract": (after_extract, 4),
    "rewrite": (after_rewrite, 4),
    "delete": (after_delete, 2),
}


def after(contents, command):
    """The contents after a command of [22], or its failure."""
    function, items = AFTER[command[0]]
    return function(contents, *command[1:])


def after_batch(contents, commands):
    for position, command in enumerate(commands):
        if not command or command[0] not in AFTER or len(command) != AFTER[command[0]][1]:
            return ("error", "InvalidCommand", position)
    for command in commands:
        contents = after(contents, command)
        if failed(contents):
            return contents
    return contents


def sorted_classes(contents):
    """The classes of [23], by comparing every label with every other one."""
    results = {
        (one, other): order_reference.result_of(contents[one], contents[other])
        for one in contents
        for other in contents
    }
    groups = {}
    for one in sorted(contents):
        lower = sum(results[other, one] == "less" for other in contents)
        groups.setdefault(lower, []).append(one)
    return [groups[lower] for lower in sorted(groups)]


class Choices:
    """Commands without a pattern, the same ones for the same seed."""

    def __init__(self, seed, terms):
        self.choice = random.Random(seed)
        self.terms = terms

    def label(self, contents, known):
        """A known label mostly if that is wanted, otherwise mostly a new one, sometimes a wrong one."""
        if self.choice.random() < 0.06:
            return self.choice.choice(WRONG_LABELS)
        wanted = [label for label in LABELS if (label in contents) == known]
        if not wanted or self.choice.random() < 0.1:
            wanted = LABELS
        return self.choice.choice(wanted)

    def term(self):
        if self.choice.random() < 0.08:
            return self.choice.choice(list(reference.WRONG_TERMS.values()))
        return self.choice.choice(self.terms)

    def path(self, contents, label):
        if self.choice.random() < 0.08:
            return self.choice.choice(WRONG_PATHS)
        if self.choice.random() < 0.1 or label not in contents:
            return self.choice.choice(("", "0", "1", "01", "110", "0000000", "1" * 60))
        return self.choice.choice(reference.all_paths(contents[label]))

    def rewrite(self, contents):
        label = self.label(contents, True)
        steps = reference.possible_steps(contents[label]) if label in contents else []
        if steps and self.choice.random() < 0.6:
            path, expanding = self.choice.choice(steps)
            return ("rewrite", label, path, not expanding)
        return ("rewrite", label, self.path(contents, label), self.choice.random() < 0.5)

    def command(self, contents):
        kind = self.choice.choice(("add", "add", "add", "combine", "combine", "extract", "rewrite", "rewrite", "delete"))
        if kind == "add":
            return (kind, self.label(contents, False), self.term())
        if kind == "combine":
            return (kind, self.label(contents, False), self.label(contents, True), self.label(contents, True))
        if kind == "extract":
            return (kind, self.label(contents, False), self.label(contents, True), self.choice.random() < 0.5)
        if kind == "rewrite":
            return self.rewrite(contents)
        return (kind, self.label(contents, True))

    def batch(self, contents):
        commands = []
        for time in range(self.choice.randint(0, 4)):
            command = self.command(contents)
            result = after(contents, command)
            if not failed(result):
                contents = result
            if not failed(result) or self.choice.random() < 0.1:
                commands.append(command)
        if self.choice.random() < 0.1:
            wrong = self.choice.choice(((), ("add",), ("undo",), ("delete", "a", "b"), ("none", "a"), ("rewrite", "a", "")))
            commands.insert(self.choice.randint(0, len(commands)), wrong)
        return commands
