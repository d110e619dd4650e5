"""Slow and plain versions of what the package does, over texts and tuples, and inputs for the tests.

Nothing here imports the package.
"""

import ast
import random
import re


def left_comb(size):
    term = ()
    for pairs in range(1, size):
        term = (term, ())
    return term


def right_comb(size):
    term = ()
    for pairs in range(1, size):
        term = ((), term)
    return term


def balanced(levels):
    term = ()
    for level in range(levels):
        term = (term, term)
    return term


def chain(links):
    """A tuple of one item around a tuple of one item and so on."""
    part = ()
    for link in range(links):
        part = (part,)
    return part


# Nested tuples that [3] does not allow, under what is wrong about them.
WRONG_TERMS = {
    "one item": ((),),
    "three items": ((), (), ()),
    "twelve items": ((),) * 12,
    "a wrong left operand": (((),), ()),
    "a wrong right operand": ((), ((),)),
    "a wrong operand far inside": ((), ((), (((), ()), ((), (), ())))),
    "three items at the greatest depth": (((((((), (), ()), ()), ()), ()), ()), ()),
    "one level too deep, to the left": left_comb(8),
    "one level too deep, to the right": right_comb(8),
    "one level too deep in one operand": (left_comb(2), (right_comb(7))),
    "size 13 within the depth": (balanced(3), (balanced(2), ())),
    "size 16 within the depth": balanced(4),
    "size 64 within the depth": balanced(6),
    "too large and too deep": left_comb(13),
    "size 256, with shared parts": balanced(8),
    "very deep to the left": left_comb(5000),
    "very deep to the right": right_comb(5000),
    "a long chain": chain(5000),
}


def terms_of_size(size, known={}):
    """All terms of a size in the order of [5]."""
    if size == 1:
        return [()]
    if size not in known:
        known[size] = [
            (left, right)
            for left_size in range(1, size)
            for left in terms_of_size(left_size)
            for right in terms_of_size(size - left_size)
        ]
    return known[size]


def size(term):
    return text(term).count("x")


def depth(term):
    """The deepest nesting of brackets in the text."""
    deepest = level = 0
    for sign in text(term):
        level += {"(": 1, ")": -1, "x": 0}[sign]
        deepest = max(deepest, level)
    return deepest


def text(term):
    """The text of a term, from what Python shows of the tuple."""
    return repr(term).replace("()", "x").replace(", ", "")


def term_of(whole):
    """The term of a well-formed text, read by Python itself."""
    return ast.literal_eval(whole.replace("x", "()").replace(")(", "),("))


def allowed(term):
    return size(term) <= 12 and depth(term) <= 6


def allowed_terms(limit, step=1):
    """Every step-th allowed term of each size up to a limit."""
    return [
        term
        for many in range(1, limit + 1)
        for term in [one for one in terms_of_size(many) if allowed(one)][::step]
    ]


def mixed_terms():
    """All allowed terms up to size 8, and a part of the larger ones with combs and pairs of combs."""
    larger = [
        term
        for many, step in ((9, 7), (10, 17), (11, 37), (12, 47))
        for term in [one for one in terms_of_size(many) if allowed(one)][::step]
    ]
    return allowed_terms(8) + larger + comb_terms()


def comb_terms():
    combs = [left_comb(many) for many in range(1, 7)] + [right_comb(many) for many in range(1, 7)]
    pairs = [(one, other) for one in combs for other in combs]
    return combs + [left_comb(7), right_comb(7)] + pairs


def could_begin(start):
    """Whether a text is the beginning of the text of some term, or such a text itself."""
    before = None
    while before != start:
        before = start
        # A bracket that is complete stands for one operand.
        start = start.replace("(xx)", "x")
    return re.fullmatch(r"x|(\(x?)*(\(xx)?", start) is not None


def is_text(whole):
    before = None
    while before != whole:
        before = whole
        whole = whole.replace("(xx)", "x")
    return whole == "x"


def first_wrong(whole):
    """The position of [4], or None for a text that is well formed."""
    for end in range(1, len(whole) + 1):
        if not could_begin(whole[:end]):
            return end - 1
    return None if is_text(whole) else len(whole)


def all_paths(term):
    """All paths of a term, in the order of texts."""
    if term == ():
        return [""]
    return sorted([""] + ["0" + path for path in all_paths(term[0])] + ["1" + path for path in all_paths(term[1])])


def part_at(term, path):
    for turn in path:
        term = term[int(turn)]
    return term


def replaced(term, path, part):
    if path == "":
        return part
    left, right = term
    if path[0] == "0":
        return (replaced(left, path[1:], part), right)
    return (left, replaced(right, path[1:], part))


def expanded_part(part):
    """The expansion at the root, or None."""
    try:
        a, (b, c) = part
    except ValueError:
        return None
    return ((a, b), (a, c))


def contracted_part(part):
    """The contraction at the root, or None."""
    try:
        (a, b), (again, c) = part
    except ValueError:
        return None
    return (a, (b, c)) if a == again else None


def stepped(term, path, expanding):
    """The term after one step, or None."""
    part = part_at(term, path)
    part = expanded_part(part) if expanding else contracted_part(part)
    return None if part is None else replaced(term, path, part)


def full_text(term):
    """The text of the full expansion, by [7]."""
    if term == ():
        return "x"
    left, right = term
    return full_text(right).replace("x", "(" + full_text(left) + "x)")


def possible_steps(term):
    """All steps (path, expanding) that a term allows, in the order of the texts of the paths."""
    return [
        (path, expanding)
        for path in all_paths(term)
        if len(path) <= 60
        for expanding in (True, False)
        if stepped(term, path, expanding) is not None
    ]


def greedy_steps(term, goal):
    """Expansions that lead to exactly the size of the goal, each the largest that still fits."""
    steps = []
    have = size(term)
    while have < goal:
        growths = [
            (size(part_at(term, path)[0]), path) for path, expanding in possible_steps(term) if expanding
        ]
        growth, path = max([(growth, path) for growth, path in growths if growth <= goal - have])
        term = stepped(term, path, True)
        steps.append((path, True))
        have += growth
    return steps


def deep_steps(length):
    """A term, expansions at ever longer paths, the term after them, and a path of a length to expand there."""
    start = (left_comb(6), right_comb(6))
    term = start
    steps = []
    path = ""
    while True:
        if len(path) == length and stepped(term, path, True) is not None:
            return start, steps, term, path
        term = stepped(term, path, True)
        steps.append((path, True))
        longer = path + ("1" if len(path) < 4 else "0")
        if stepped(term, longer, True) is not None:
            path = longer


def long_walk(start, many, limit):
    """Some steps from a term, forth and back without a pattern, and the term to which they lead."""
    choice = random.Random(5)
    term = start
    steps = []
    while len(steps) < many:
        wanted = choice.random() < 0.5
        found = possible_steps(term)
        step = choice.choice([step for step in found if step[1] == wanted] or found)
        after = stepped(term, *step)
        if size(after) <= limit:
            term = after
            steps.append(step)
    return steps, term
