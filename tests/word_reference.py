"""Slow and plain versions of what the package does with words, straight from the document, and words for the tests.

Nothing here imports the package.
"""

import itertools
import random

WRONG_LETTERS = (0, 41, -41, 42, 1000, -1000, 10**29, -(10**29))


def wrong_words():
    """Tuples of integers that [9] does not allow."""
    words = [(1,) * 301, (40, -40) * 151, (1,) * 400, tuple(range(1, 42))]
    for wrong in WRONG_LETTERS:
        words += [(wrong,), (1, wrong), (wrong, 1), (1, 2, wrong, -3), (1,) * 299 + (wrong,), (wrong,) * 301]
    return words


def random_word(choice, many, highest):
    return tuple(choice.choice((1, -1)) * choice.randint(1, highest) for letter in range(many))


def random_words(seed, lengths, highest, each=1):
    """Some words of each length, the same ones at each call."""
    choice = random.Random(seed)
    return [random_word(choice, many, highest) for many in lengths for word in range(each)]


def all_words(many, highest):
    """All words of a length with these magnitudes."""
    letters = [sign * k for k in range(1, highest + 1) for sign in (1, -1)]
    return list(itertools.product(letters, repeat=many))


def sign(letter):
    return letter // abs(letter)


def inverted(word):
    result = ()
    for letter in word:
        result = (-letter,) + result
    return result


def raised(word, by):
    return tuple(letter + sign(letter) * by for letter in word)


def term_word(term):
    if term == ():
        return ()
    a, b = term
    return term_word(a) + raised(term_word(b), 1) + (1,) + raised(inverted(term_word(a)), 1)


def braids_of(j, i):
    """What a braid move makes of three letters with the magnitudes j, i, j."""
    table = {}
    for s in (1, -1):
        table[s * j, s * i, s * j] = (s * i, s * j, s * i)
        for t in (1, -1):
            table[s * j, t * i, -s * j] = (-s * i, t * j, s * i)
    return table


BRAIDS = {}
for low in range(1, 40):
    BRAIDS.update(braids_of(low, low + 1))
    BRAIDS.update(braids_of(low + 1, low))


def moves_of(word):
    """Each move that applies to a word, without those that insert, and its result."""
    found = {}
    for at in range(len(word)):
        start, two, three = word[:at], word[at : at + 2], word[at : at + 3]
        if len(two) == 2 and two[0] + two[1] == 0:
            found["cancel", at] = start + word[at + 2 :]
        if len(two) == 2 and abs(abs(two[0]) - abs(two[1])) > 1:
            found["swap", at] = start + (two[1], two[0]) + word[at + 2 :]
        if three in BRAIDS:
            found["braid", at] = start + BRAIDS[three] + word[at + 3 :]
    return found


def changed_word(choice, word, many, highest):
    """A word after some moves without a pattern, and these moves."""
    moves = []
    for step in range(many):
        found = moves_of(word)
        if not found or choice.random() < 0.3:
            at = choice.randint(0, len(word))
            k = choice.choice((1, -1)) * choice.randint(1, highest)
            moves.append(("insert", at, k))
            word = word[:at] + (k, -k) + word[at:]
        else:
            move = choice.choice(sorted(found))
            moves.append(move)
            word = found[move]
    return word, moves


def letter_image(letter, symbol):
    """The image of one symbol under one letter, by [13]."""
    k = abs(letter)
    if symbol < 0:
        return inverted(letter_image(letter, -symbol))
    if letter > 0:
        images = {k: (k, k + 1, -k), k + 1: (k,)}
    else:
        images = {k: (k + 1,), k + 1: (-(k + 1), k, k + 1)}
    return images.get(symbol, (symbol,))


def without_opposites(symbols):
    """A sequence after removing adjacent opposite symbols, the first ones first, until none are left."""
    at = 0
    symbols = list(symbols)
    while at + 1 < len(symbols):
        if symbols[at] == -symbols[at + 1]:
            del symbols[at : at + 2]
            at = max(at - 1, 0)
        else:
            at += 1
    return tuple(symbols)


def image(word, symbol):
    symbols = (symbol,)
    for letter in word[::-1]:
        # A word of ten letters would make the sequence too long without this.
        symbols = without_opposites([part for old in symbols for part in letter_image(letter, old)])
    return symbols


def same_images(one, other):
    """Whether two words have equal images of all symbols, so whether they are equivalent."""
    highest = max([abs(letter) for letter in one + other], default=1)
    return all(image(one, symbol) == image(other, symbol) for symbol in range(1, highest + 2))


def is_handle(word, start, end):
    if word[start] != -word[end]:
        return False
    k = abs(word[start])
    inside = [abs(letter) for letter in word[start + 1 : end]]
    return k not in inside and k - 1 not in inside


def first_handle(word):
    """The handle that ends first; there is at most one with each end."""
    for end in range(len(word)):
        starts = [start for start in range(end) if is_handle(word, start, end)]
        if starts:
            (start,) = starts
            return (start, end)
    return None


def without_handle(word, start, end):
    k, s = abs(word[start]), sign(word[start])
    inside = ()
    for letter in word[start + 1 : end]:
        if abs(letter) == k + 1:
            inside += (-s * (k + 1), sign(letter) * k, s * (k + 1))
        else:
            inside += (letter,)
    return word[:start] + inside + word[end + 1 :]


def reduced(word):
    while first_handle(word) is not None:
        word = without_handle(word, *first_handle(word))
    return word


def least(word):
    """The letter of the least magnitude in a reduced word, which all have the same sign by [12], or 0."""
    magnitude = min([abs(letter) for letter in word], default=0)
    (letter,) = {letter for letter in word if abs(letter) == magnitude} or {0}
    return letter


def leading(word):
    return least(reduced(word))
