"""Slow and plain versions of what the package does with definitions, and source texts for the tests.

An expression is a tuple: ("x",), ("name", name), ("pair", one, other), ("^", one, number), ("_", one, number).
Nothing here imports the package.
"""

import random
import re

from tests import order_reference

# Stands for a bracket that is complete; it cannot stand in a text.
WHOLE = "\u2022"
NAME = r"[A-Z][0-9]{0,2}"
OPERAND = rf"(?:x|{WHOLE}|{NAME})(?:[\^_][1-9][0-9]{{0,29}})*"
DEFINITION = rf"{NAME}={OPERAND}"
INSIDE = re.compile(rf"\({OPERAND}{OPERAND}\)")
WHOLE_SOURCE = re.compile(rf"(?:{DEFINITION}(?:;{DEFINITION})*)?")
START = re.compile(rf"(?:{DEFINITION};)*(?:{NAME}(?:=(?:\((?:{OPERAND})?)*(?:{OPERAND}[\^_]?)?)?)?")
SIGNS = "x()^_;=AZBc019 .%\n"


def collapsed(source):
    before = None
    while before != source:
        before = source
        source = INSIDE.sub(WHOLE, source)
    return source


def first_wrong(source):
    """The position of [21], or None for a text that is well formed."""
    for end in range(1, len(source) + 1):
        if not START.fullmatch(collapsed(source[:end])):
            return end - 1
    return None if WHOLE_SOURCE.fullmatch(collapsed(source)) else len(source)


def nesting(source):
    deepest = level = 0
    for sign in source:
        level += {"(": 1, ")": -1}.get(sign, 0)
        deepest = max(deepest, level)
    return deepest


def first_error(source, names=()):
    """The name of the first error of [21] and its field, or None, for a text after definitions of names."""
    position = first_wrong(source)
    if position is not None:
        return ("InvalidText", position)
    if nesting(source) > 30:
        return ("NestingTooDeep", None)
    names = list(names)
    for definition in source.split(";") if source else ():
        name, right = definition.split("=")
        for used in re.findall(NAME, right):
            if used not in names:
                return ("UnknownName", used)
        if name in names:
            return ("DuplicateName", name)
        names.append(name)
    return ("LimitReached", None) if len(names) > 30 else None


def text_of(tree):
    kind, *parts = tree
    if kind == "x":
        return "x"
    if kind == "name":
        return parts[0]
    if kind == "pair":
        return "(" + text_of(parts[0]) + text_of(parts[1]) + ")"
    return text_of(parts[0]) + kind + str(parts[1])


def source_of(trees):
    return ";".join(name + "=" + text_of(tree) for name, tree in trees)


def random_tree(choice, names, levels, numbers):
    kind = choice.choice(("x", "name", "pair", "pair", "^", "_") if levels else ("x", "name"))
    if kind == "x" or kind == "name" and not names:
        return ("x",)
    if kind == "name":
        return ("name", choice.choice(names))
    first = random_tree(choice, names, levels - 1, numbers)
    if kind == "pair":
        return (kind, first, random_tree(choice, names, levels - 1, numbers))
    return (kind, first, choice.choice(numbers))


def random_definitions(seed, many, numbers=(1, 2, 3, 4, 10, 12), levels=3):
    """Programs with up to five definitions, each a list of names and expressions."""
    choice = random.Random(seed)
    found = []
    for which in range(many):
        trees = []
        names = choice.sample(["A", "B7", "C12", "Z", "Q0", "A1", "B00", "X99"], which % 6)
        for at, name in enumerate(names):
            trees.append((name, random_tree(choice, names[:at], levels, numbers)))
        found.append(trees)
    return found


def changed_sources(choice, source):
    """A text with one character inserted, removed or replaced, and its beginnings."""
    at = choice.randint(0, len(source))
    sign = choice.choice(SIGNS.replace("%", ""))
    found = [source[:at], source[:at] + sign + source[at:]]
    if source:
        at = choice.randrange(len(source))
        found += [source[:at] + source[at + 1 :], source[:at] + sign + source[at + 1 :]]
    return found


def folded(tree, known, generator, join, power):
    kind, *parts = tree
    if kind == "x":
        return generator
    if kind == "name":
        return known[parts[0]]
    first = folded(parts[0], known, generator, join, power)
    if kind == "pair":
        return join(first, folded(parts[1], known, generator, join, power))
    return power(kind, first, parts[1])


def each_name(trees, generator, join, power):
    """What each name stands for, where generators, pairs and powers stand for this."""
    known = {}
    for name, tree in trees:
        known[name] = folded(tree, known, generator, join, power)
    return known


def sizes(trees):
    return each_name(trees, 1, lambda a, b: a + b, lambda sign, base, number: number * base)


def depths(trees):
    return each_name(trees, 0, lambda a, b: max(a, b) + 1, lambda sign, base, number: base + number - 1)


def power_term(sign, base, number):
    if number == 1:
        return base
    rest = power_term(sign, base, number - 1)
    return (base, rest) if sign == "^" else (rest, base)


def terms(trees):
    """The terms of names; None for those that are too large to be built."""
    known_sizes, known_depths = sizes(trees), depths(trees)
    known = {}
    for name, tree in trees:
        small = known_sizes[name] <= 12 and known_depths[name] <= 6
        known[name] = folded(tree, known, (), lambda a, b: (a, b), power_term) if small else None
    return known


def values(trees, size):
    """The values of names in a table; a power is a map that is applied to itself again and again."""
    table = order_reference.table(size)

    def power(sign, base, number):
        step = {
            element: table[base, element] if sign == "^" else table[element, base] for element in range(1, 2**size + 1)
        }
        value, times = base, number - 1
        while times:
            if times % 2:
                value = step[value]
            step = {element: step[step[element]] for element in step}
            times //= 2
        return value

    return each_name(trees, 1, lambda a, b: table[a, b], power)
