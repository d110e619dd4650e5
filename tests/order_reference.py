"""Slow and plain versions of what the package does with the order, tables and models, straight from the document.

Nothing here imports the package.
"""

import functools
import itertools

from tests import reference, word_reference

OPPOSITE = {"equal": "equal", "less": "greater", "greater": "less"}


def joint(one, other):
    return word_reference.inverted(word_reference.term_word(one)) + word_reference.term_word(other)


def result_of(one, other):
    """The comparison by [15], with the reduction of [11]."""
    return {0: "equal", 1: "less", -1: "greater"}[word_reference.leading(joint(one, other))]


def result_by_images(one, other):
    """The comparison of small terms by the images of [13], without any reduction of words."""
    word = joint(one, other)
    if word_reference.same_images(word, ()):
        return "equal"
    forth = word_reference.image(word, 1)[-1:] == (-1,)
    back = word_reference.image(word_reference.inverted(word), 1)[-1:] == (-1,)
    assert forth != back
    return "less" if forth else "greater"


def moved(word, move):
    """The word after one move of [10], or None."""
    name, *numbers = move
    if name == "insert" and len(numbers) == 2:
        at, k = numbers
        if 0 <= at <= len(word) and k != 0 and -40 <= k <= 40:
            return word[:at] + (k, -k) + word[at:]
        return None
    if len(numbers) != 1 or not 0 <= numbers[0] < len(word):
        return None
    at = numbers[0]
    end = at + (3 if name == "braid" else 2)
    after = word_reference.moves_of(word[at:end]).get((name, 0))
    return None if after is None else word[:at] + after + word[end:]


def is_certificate(one, other, claimed):
    """Whether a tuple meets the conditions of [15]."""
    result, moves, last = claimed
    word = joint(one, other)
    for move in moves:
        word = moved(word, move)
        if word is None:
            return False
    if word != last:
        return False
    if result == "equal":
        return last == ()
    if result == "less":
        return 1 in last and -1 not in last
    return result == "greater" and -1 in last and 1 not in last


def equal_walk(choice, term, many):
    """An allowed term that some steps without a pattern make of a term."""
    for step in range(many):
        found = [reference.stepped(term, *step) for step in reference.possible_steps(term)]
        found = [after for after in found if reference.allowed(after)]
        if found:
            term = choice.choice(found)
    return term


@functools.lru_cache(maxsize=None)
def table(size):
    """The whole table by the recursion of [17], as a dict."""
    last = 2**size
    found = {(one, 1): one % last + 1 for one in range(1, last + 1)}
    # Each other value that the recursion needs stands in a row below.
    for one in range(last, 0, -1):
        for other in range(1, last):
            found[one, other + 1] = found[found[one, other], found[one, 1]]
    return found


def table_value(size, term):
    if term == ():
        return 1
    return table(size)[table_value(size, term[0]), table_value(size, term[1])]


def projection(element, size):
    (found,) = [low for low in range(1, 2**size + 1) if (element - low) % 2**size == 0]
    return found


def separation(one, other, limit):
    for size in range(limit + 1):
        values = (table_value(size, one), table_value(size, other))
        if values[0] != values[1]:
            return (size, *values)
    return None


def violations(model):
    """All triples for which the rule of [19] does not hold, in ascending order."""
    places = range(len(model))
    return [
        (a, b, c)
        for a, b, c in itertools.product(places, repeat=3)
        if model[a][model[b][c]] != model[model[a][b]][model[a][c]]
    ]


def model_value(model, start, term):
    if term == ():
        return start
    return model[model_value(model, start, term[0])][model_value(model, start, term[1])]


def values_of_terms(one, start, other, goal):
    """The pairs of values of all terms in two models, by adding the values of larger terms until none is new."""
    found = {(start, goal)}
    while True:
        more = {(one[a][c], other[b][d]) for a, b in found for c, d in found} - found
        if not more:
            return found
        found |= more


def homomorphism(one, start, other, goal):
    pairs = values_of_terms(one, start, other, goal)
    for a in range(len(one)):
        images = sorted(image for value, image in pairs if value == a)
        if len(images) > 1:
            return ("conflict", a, images[0], images[1])
    return ("map", dict(pairs))


# Tuples of tuples of integers that [19] does not allow, under what is wrong about them.
WRONG_MODELS = {
    "no rows": (),
    "thirteen rows": ((0,) * 13,) * 13,
    "twenty rows": ((0,) * 20,) * 20,
    "one empty row": ((),),
    "two empty rows": ((), ()),
    "a row too many": ((0, 0), (0, 0), (0, 0)),
    "a row too few": ((0, 0, 0), (0, 0, 0)),
    "a short first row": ((0,), (0, 0)),
    "a short last row": ((0, 0, 0), (0, 0, 0), (0, 0)),
    "a long row": ((0, 0), (0, 0, 0)),
    "one long row": ((0, 0),),
    "an entry that is too large": ((0, 1), (2, 0)),
    "the only entry is too large": ((1,),),
    "the last entry is too large": ((0, 0, 0), (0, 0, 0), (0, 0, 3)),
    "a negative entry": ((0, -1), (0, 0)),
    "a negative last entry": ((0, 0), (0, -2)),
    "a very large entry": ((10**29, 0), (0, 0)),
    "a very negative entry": ((0, 0), (-(10**29), 0)),
    "twelve rows and one entry of 12": ((0,) * 12,) * 11 + ((0,) * 11 + (12,),),
}
