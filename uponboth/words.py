"""Signed words: inverse, shifting, the word of a term, moves, and what a word acts on."""

from uponboth.errors import InvalidIndex, InvalidSize, InvalidStep, InvalidWord, TooLarge
from uponboth.terms import check_term

MAX_LETTER = 40
MAX_LETTERS = 300
MAX_SHIFT = 20
MAX_IMAGE_LETTERS = 10
MAX_SYMBOL = 41
MAX_ACTING_LETTERS = 5
# How many letters a move reads and replaces; "insert" replaces none.
WIDTHS = {"cancel": 2, "swap": 2, "braid": 3}


def is_letter(number):
    return number != 0 and abs(number) <= MAX_LETTER


def are_letters(numbers):
    return all([is_letter(number) for number in numbers])


def check_word(word):
    if len(word) > MAX_LETTERS or not are_letters(word):
        raise InvalidWord("a word has at most 300 letters from -40 to 40, none of them 0")


def inverse(word):
    """Return the inverse of a word."""
    check_word(word)
    return inverse_of(word)


def inverse_of(letters):
    return tuple([-letter for letter in reversed(letters)])


def shifted(word, *, by=1):
    """Return the word shifted by a number from 0 to 20."""
    check_word(word)
    if not 0 <= by <= MAX_SHIFT:
        raise InvalidSize("a shift is from 0 to 20")
    result = shifted_by(word, by)
    if not are_letters(result):
        raise InvalidWord("the shifted word has a letter above 40")
    return result


def shifted_by(word, by):
    return tuple([with_sign(abs(letter) + by, letter) for letter in word])


def with_sign(magnitude, letter):
    """Return the letter of this magnitude with the sign of another letter."""
    return magnitude if letter > 0 else -magnitude


def word_of(term):
    """Return the word of a term."""
    check_term(term)
    return word_below(term)


def word_below(term):
    if term == ():
        return ()
    acting = word_below(term[0])
    return acting + shifted_by(word_below(term[1]), 1) + (1,) + shifted_by(inverse_of(acting), 1)


def apply_moves(word, moves):
    """Return the result of a list of moves."""
    check_word(word)
    letters = list(word)
    for position, move in enumerate(moves):
        change = change_of(letters, move)
        if change is None:
            raise InvalidStep(position)
        start, end, replaced = change
        letters[start:end] = replaced
    return tuple(letters)


def change_of(letters, move):
    """Return the range of letters that a move replaces and the letters that come there, or None."""
    if len(move) == 3:
        return insertion_of(letters, move)
    if len(move) != 2 or move[0] not in WIDTHS:
        return None
    name, start = move
    end = start + WIDTHS[name]
    # A negative index would count from the end of a list.
    if start < 0 or end > len(letters):
        return None
    replaced = replaced_by(name, letters[start:end])
    return None if replaced is None else (start, end, replaced)


def insertion_of(letters, move):
    name, start, letter = move
    if name != "insert" or not 0 <= start <= len(letters) or not is_letter(letter):
        return None
    return (start, start, [letter, -letter])


def replaced_by(name, letters):
    """Return what a move puts in the place of the letters that it reads, or None."""
    if name == "cancel":
        return [] if letters[0] == -letters[1] else None
    if name == "swap":
        return [letters[1], letters[0]] if abs(abs(letters[0]) - abs(letters[1])) >= 2 else None
    return braided(letters)


def braided(letters):
    first, second, third = letters
    outer, inner = abs(first), abs(second)
    if abs(outer - inner) != 1:
        return None
    if third == -first:
        return [with_sign(inner, -first), with_sign(outer, second), with_sign(inner, first)]
    if third == first and (first > 0) == (second > 0):
        return [second, first, second]
    return None


def image_of(word, symbol):
    """Return the image of a positive symbol under a word."""
    check_word(word)
    if len(word) > MAX_IMAGE_LETTERS:
        raise TooLarge(len(word))
    if not 1 <= symbol <= MAX_SYMBOL:
        raise InvalidIndex("a symbol is from 1 to 41")
    image = [symbol]
    for letter in reversed(word):
        image = mapped(letter, image)
    return tuple(image)


def mapped(letter, symbols):
    """Return the sequence to which a letter maps a sequence of symbols."""
    image = []
    for symbol in symbols:
        for part in image_by(letter, symbol):
            if image and image[-1] == -part:
                image.pop()
            else:
                image.append(part)
    return image


def image_by(letter, symbol):
    if symbol < 0:
        return inverse_of(image_by(letter, -symbol))
    low = abs(letter)
    high = low + 1
    if symbol == low:
        return (low, high, -low) if letter > 0 else (high,)
    if symbol == high:
        return (low,) if letter > 0 else (-high, low, high)
    return (symbol,)


def act_on(terms, word):
    """Return the list of terms on which each letter of a word has acted in turn."""
    for term in terms:
        check_term(term)
    check_word(word)
    if len(word) > MAX_ACTING_LETTERS or not all([1 <= letter < len(terms) for letter in word]):
        raise InvalidWord("the word has at most 5 letters from 1 to below the number of terms")
    result = list(terms)
    for letter in word:
        acting, other = result[letter - 1], result[letter]
        result[letter - 1], result[letter] = (acting, other), acting
    return result
