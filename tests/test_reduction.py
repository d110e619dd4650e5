"""Reduction: the promises [11] and [12] and the interface of uponboth/reduction.py."""

import random
import unittest

from tests import reference, word_reference
from uponboth.errors import InvalidWord
from uponboth.reduction import equivalent, first_handle, leading_letter, reduced, reduction_moves
from uponboth.words import apply_moves, inverse, word_of

WRONG_WORDS = word_reference.wrong_words()


def short_words():
    words = [word for many in range(5) for word in word_reference.all_words(many, 2)]
    words += word_reference.all_words(3, 4)
    for seed, highest in ((1, 2), (2, 3), (3, 4), (4, 6), (5, 40)):
        words += word_reference.random_words(seed, range(1, 17), highest, each=12)
    return words


def empty_words():
    """Words that are equivalent to the empty word, made by moves without a pattern."""
    choice = random.Random(6)
    return [word_reference.changed_word(choice, (), many, 4)[0] for many in range(1, 60)]


def single_handles(lengths):
    """Words that are one handle, with inner letters of the next magnitude of one sign only."""
    choice = random.Random(7)
    return [
        (first, *inner_letters(choice, k, sign, many), -first)
        for k in (1, 2, 3, 5, 39, 40)
        for first in (k, -k)
        for sign in (1, -1)
        for many in lengths
    ]


def inner_letters(choice, k, sign, many):
    # All other letters are positive, so that they form no handle.
    letters = [j for j in range(1, 41) if j not in (k - 1, k, k + 1)]
    letters += [sign * (k + 1)] * 30 if k < 40 else []
    return [choice.choice(letters) for letter in range(many)]


SHORT_WORDS = short_words()
EMPTY_WORDS = empty_words()
SINGLE_HANDLES = single_handles((0, 1, 2, 3, 8, 20))
LONG_HANDLES = single_handles((100, 298))


class FirstHandleTests(unittest.TestCase):
    def test_fixed_words(self):
        for word, handle in (
            ((), None),
            ((1,), None),
            ((1, 1), None),
            ((1, -1), (0, 1)),
            ((-1, 1), (0, 1)),
            ((1, 3, -1), (0, 2)),
            ((2, 1, -2), None),
            ((3, 1, -3), (0, 2)),
            ((1, 2, -2, -1), (1, 2)),
            ((1, 2, 3, -2, -1), (1, 3)),
            ((1, 1, 2, -1, -1), (1, 3)),
            ((1, 2, 1, -2, 1), None),
            ((2, 3, 1, -1, -3, -2), (2, 3)),
            ((40, 38, -40), (0, 2)),
            ((40, 39, -40), None),
            ((39, 40, -39), (0, 2)),
        ):
            with self.subTest(word):
                self.assertEqual(first_handle(word), handle)

    def test_words(self):
        words = SHORT_WORDS + EMPTY_WORDS + SINGLE_HANDLES + LONG_HANDLES[::8]
        for highest in (2, 3, 5, 10, 40):
            words = words + word_reference.random_words(8, range(17, 31), highest, each=5)
        without = 0
        for word in words:
            self.assertEqual(first_handle(word), word_reference.first_handle(word))
            without += first_handle(word) is None
        self.assertGreater(without, 100)

    def test_the_handle_that_ends_first(self):
        # The handle of 1 begins first, that of 4 ends first.
        self.assertEqual(first_handle((1, 3, 4, -4, -1)), (2, 3))
        self.assertEqual(first_handle((1, 6, -1, -6)), (0, 2))
        self.assertEqual(first_handle((1, 6, -6, -1)), (1, 2))

    def test_long_words(self):
        self.assertEqual(first_handle((1, *[3] * 298, -1)), (0, 299))
        self.assertEqual(first_handle((2, *[1] * 297, 5, -5)), (298, 299))
        self.assertIsNone(first_handle((1, 2, 3) * 100))
        self.assertIsNone(first_handle((-1, 2, -3) * 100))
        for word in word_reference.random_words(9, [300] * 10, 40):
            self.assertEqual(first_handle(word), word_reference.first_handle(word))

    def test_result_is_a_tuple(self):
        self.assertIs(type(first_handle((1, -1))), tuple)


class ReducedTests(unittest.TestCase):
    def check_word(self, word, goal):
        result = reduced(word)
        self.assertEqual(result, goal)
        self.assertIs(type(result), tuple)
        self.assertIsNone(word_reference.first_handle(result))
        moves = reduction_moves(word)
        self.assertIs(type(moves), list)
        self.assertTrue(all(type(move) is tuple for move in moves))
        self.assertEqual(apply_moves(word, moves), goal)
        if len(result) <= 300:
            self.assertEqual(reduced(result), result)
            self.assertEqual(reduction_moves(result), [])

    def test_fixed_words(self):
        for word, goal in (
            ((), ()),
            ((1, -1), ()),
            ((1, 2, -1), (-2, 1, 2)),
            ((1, -2, -1), (-2, -1, 2)),
            ((-1, 2, 1), (2, 1, -2)),
            ((-1, -2, 1), (2, -1, -2)),
            ((1, 2, 2, -1), (-2, 1, 1, 2)),
            ((1, 4, -1), (4,)),
            ((1, 4, 2, 5, -1), (4, -2, 1, 2, 5)),
            ((3, 2, -3), (3, 2, -3)),
            ((1, 2, 1, -2, -1, -2), ()),
            ((3, 1), (3, 1)),
        ):
            with self.subTest(word):
                self.check_word(word, goal)

    def test_short_words(self):
        for word in SHORT_WORDS:
            self.check_word(word, word_reference.reduced(word))

    def test_words_equivalent_to_short_ones(self):
        choice = random.Random(10)
        for start in ((1,), (-2,), (1, 2), (3, -1), (-1, 2, -1, 2)):
            for many in (5, 20, 40):
                word = word_reference.changed_word(choice, start, many, 4)[0]
                self.check_word(word, word_reference.reduced(word))
                self.assertEqual(leading_letter(word), word_reference.leading(start))

    def test_words_equivalent_to_the_empty_word(self):
        for word in EMPTY_WORDS:
            self.check_word(word, ())
        for word in word_reference.random_words(11, range(1, 151, 10), 5):
            self.check_word(word + inverse(word), ())

    def test_positive_words(self):
        for highest in (1, 2, 5, 40):
            for word in word_reference.random_words(12, (1, 2, 10, 100, 299, 300), highest):
                word = tuple(abs(letter) for letter in word)
                self.check_word(word, word)
                self.check_word(inverse(word), inverse(word))
                self.assertEqual(leading_letter(word), min(word))
                self.assertEqual(leading_letter(inverse(word)), -min(word))

    def test_single_handles(self):
        for word in SINGLE_HANDLES:
            self.assertEqual(word_reference.first_handle(word), (0, len(word) - 1))
            self.check_word(word, word_reference.reduced(word))
        for word in LONG_HANDLES:
            result = reduced(word)
            self.assertIsNone(word_reference.first_handle(result))
            self.assertEqual(apply_moves(word, reduction_moves(word)), result)
            self.assertEqual(leading_letter(word), word_reference.least(result))
        for many in (1, 5, 298):
            self.check_word((1, *[2] * many, -1), (-2, *[1] * many, 2))
            self.check_word((-1, *[-2] * many, 1), (2, *[-1] * many, -2))

    def test_long_words(self):
        for highest in (2, 3, 4, 6, 10, 40):
            for word in word_reference.random_words(13, (60, 300), highest):
                moves = reduction_moves(word)
                self.assertEqual(apply_moves(word, moves), reduced(word))
                self.assertEqual(apply_moves(word, tuple(moves)), reduced(word))
                self.assertIsNone(word_reference.first_handle(reduced(word)))
                self.assertEqual(leading_letter(word), word_reference.least(reduced(word)))
                if len(word) == 60:
                    self.assertEqual(reduced(word), word_reference.reduced(word))

    def test_many_moves_may_be_passed_back(self):
        half = word_reference.random_word(random.Random(14), 75, 4)
        turns = tuple(abs(letter) for letter in half)
        word = turns + half + inverse(turns) + inverse(half)
        moves = reduction_moves(word)
        self.assertGreater(len(moves), 1000)
        self.assertEqual(apply_moves(word, moves), reduced(word))

    def test_changing_the_list_has_no_effect(self):
        for word in ((1, 2, -1), (3, 1), (1, -1)):
            moves = reduction_moves(word)
            kept = list(moves)
            moves.append(("cancel", 0))
            self.assertEqual(reduction_moves(word), kept)


class LeadingLetterTests(unittest.TestCase):
    def test_fixed_words(self):
        for word, letter in (
            ((), 0),
            ((1,), 1),
            ((-40,), -40),
            ((3, 2), 2),
            ((-3, -2), -2),
            ((2, -1), -1),
            ((1, -1), 0),
            ((1, -1, 5), 5),
            ((1, 2, -1), 1),
            ((1, -2, -1), -1),
            ((-1, 2, 1), 1),
        ):
            with self.subTest(word):
                self.assertEqual(leading_letter(word), letter)

    def test_words(self):
        for word in SHORT_WORDS + EMPTY_WORDS + SINGLE_HANDLES[::5]:
            letter = leading_letter(word)
            self.assertEqual(letter, word_reference.leading(word))
            self.assertEqual(leading_letter(inverse(word)), -letter)

    def test_zero_exactly_for_words_equivalent_to_the_empty_word(self):
        zeros = 0
        for word in SHORT_WORDS + EMPTY_WORDS:
            if len(word) <= 16:
                zero = leading_letter(word) == 0
                self.assertEqual(zero, word_reference.same_images(word, ()))
                self.assertEqual(zero, reduced(word) == ())
                zeros += zero
        self.assertGreater(zeros, 50)

    def test_terms(self):
        # A term is less than every pair whose left operand it is.
        for term in reference.allowed_terms(5):
            joint = inverse(word_of(term)) + word_of((term, ()))
            self.assertEqual(leading_letter(joint), 1)
            self.assertEqual(leading_letter(inverse(joint)), -1)


class EquivalentTests(unittest.TestCase):
    def test_fixed_words(self):
        for one, other, answer in (
            ((), (), True),
            ((), (1, -1), True),
            ((1,), (), False),
            ((1,), (-1,), False),
            ((1, 3), (3, 1), True),
            ((1, 2), (2, 1), False),
            ((1, 2, 1), (2, 1, 2), True),
            ((1, 2, -1), (-2, 1, 2), True),
            ((1, -2, 1), (-2, 1, -2), False),
            ((40, 39, 40), (39, 40, 39), True),
            ((1, 1), (2, 2), False),
        ):
            with self.subTest(one=one, other=other):
                self.assertIs(equivalent(one, other), answer)
                self.assertIs(equivalent(other, one), answer)

    def test_words_changed_by_moves(self):
        choice = random.Random(15)
        for word in word_reference.random_words(16, range(1, 30), 4):
            other = word_reference.changed_word(choice, word, 30, 5)[0]
            before = word_reference.random_word(choice, 10, 5)
            behind = word_reference.random_word(choice, 10, 5)
            self.assertTrue(equivalent(word, other))
            self.assertTrue(equivalent(inverse(word), inverse(other)))
            self.assertTrue(equivalent(before + word + behind, before + other + behind))
            self.assertFalse(equivalent(word, other + (6,)))
            self.assertFalse(equivalent(before + word + behind, before + other + (1,) + behind))

    def test_exactly_if_the_images_are_equal(self):
        words = [word for many in range(4) for word in word_reference.all_words(many, 2)]
        images = {word: [word_reference.image(word, symbol) for symbol in (1, 2, 3)] for word in words}
        for one in words:
            for other in words:
                self.assertEqual(equivalent(one, other), images[one] == images[other])
        words = word_reference.random_words(17, range(4, 9), 3, each=10)
        for one, other in zip(words, reversed(words)):
            for changed in (other, reduced(one), one[1:], one[::-1]):
                self.assertEqual(equivalent(one, changed), word_reference.same_images(one, changed))

    def test_long_words(self):
        for highest in (2, 4, 40):
            (word,) = word_reference.random_words(18, [290], highest)
            other = word_reference.changed_word(random.Random(19), word, 5, 4)[0]
            self.assertTrue(equivalent(word, other))
            self.assertTrue(equivalent(word, word))
            self.assertFalse(equivalent(word, word + (2, 2)))
        self.assertTrue(equivalent((1, -1) * 150, (7, -7) * 150))
        self.assertFalse(equivalent((1,) * 300, (1,) * 299))

    def test_wrong_words(self):
        for wrong in WRONG_WORDS:
            for function in (first_handle, reduced, leading_letter, reduction_moves):
                with self.subTest(function=function.__name__, wrong=wrong), self.assertRaises(InvalidWord):
                    function(wrong)
            for pair in ((wrong, ()), ((), wrong), (wrong, wrong), ((1, 2), wrong)):
                with self.subTest(pair), self.assertRaises(InvalidWord):
                    equivalent(*pair)


if __name__ == "__main__":
    unittest.main()
