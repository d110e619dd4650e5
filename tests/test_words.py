"""Words: the promises [9], [10] and [13] and the interface of uponboth/words.py."""

import random
import unittest

from tests import reference, word_reference
from uponboth.errors import InvalidIndex, InvalidSize, InvalidStep, InvalidTerm, InvalidWord, TooLarge
from uponboth.words import act_on, apply_moves, image_of, inverse, shifted, word_of

WRONG_WORDS = word_reference.wrong_words()
LONG = (40, -40, 1, -1, 7, 20) * 50
PAIR = ((), ())
THREE = ((), PAIR)


class InverseTests(unittest.TestCase):
    def test_words(self):
        self.assertEqual(inverse(()), ())
        self.assertEqual(inverse((40, -40, -1)), (1, 40, -40))
        for word in word_reference.random_words(1, range(0, 301, 4), 40, each=2):
            self.assertEqual(inverse(word), word_reference.inverted(word))
            self.assertIs(type(inverse(word)), tuple)
            self.assertEqual(inverse(inverse(word)), word)

    def test_every_letter(self):
        for letter in range(1, 41):
            self.assertEqual(inverse((letter,)), (-letter,))
            self.assertEqual(inverse((-letter,)), (letter,))

    def test_longest_word(self):
        self.assertEqual(len(LONG), 300)
        self.assertEqual(inverse(LONG), word_reference.inverted(LONG))

    def test_wrong_words(self):
        for wrong in WRONG_WORDS:
            with self.subTest(wrong), self.assertRaises(InvalidWord):
                inverse(wrong)


class ShiftedTests(unittest.TestCase):
    def test_words(self):
        for word in word_reference.random_words(2, range(0, 301, 10), 20, each=2):
            self.assertEqual(shifted(word), word_reference.raised(word, 1))
            self.assertEqual(shifted(word, by=0), word)
            for by in range(21):
                self.assertEqual(shifted(word, by=by), word_reference.raised(word, by))
            self.assertIs(type(shifted(word)), tuple)

    def test_empty_word(self):
        for by in range(21):
            self.assertEqual(shifted((), by=by), ())

    def test_highest_letters(self):
        for by in range(21):
            self.assertEqual(shifted((40 - by, by - 40), by=by), (40, -40))
            for letter in range(40 - by + 1, 41):
                for word in ((letter,), (-letter,), (1, letter), (-letter, 1), (1,) * 299 + (letter,)):
                    with self.assertRaises(InvalidWord):
                        shifted(word, by=by)
        with self.assertRaises(InvalidWord):
            shifted((40,))
        with self.assertRaises(InvalidWord):
            shifted((1, -40))

    def test_wrong_shifts(self):
        for by in (-1, 21, 22, -20, 100, 10**29, -(10**29)):
            # The last two words could not be shifted by much either.
            for word in ((), (1, -2), LONG, (40,), (-40, 1)):
                with self.assertRaises(InvalidSize):
                    shifted(word, by=by)

    def test_wrong_words_come_first(self):
        for wrong in WRONG_WORDS:
            for by in (0, 1, 20, 21, -1):
                with self.assertRaises(InvalidWord):
                    shifted(wrong, by=by)
        # The shift would bring these letters into the range.
        for by in (-1, -2):
            with self.assertRaises(InvalidWord):
                shifted((41,), by=by)

    def test_shift_is_passed_by_keyword(self):
        with self.assertRaises(TypeError):
            shifted((1,), 1)


class WordOfTermTests(unittest.TestCase):
    def test_small_terms(self):
        self.assertEqual(word_of(()), ())
        self.assertEqual(word_of(PAIR), (1,))
        self.assertEqual(word_of(THREE), (2, 1))
        self.assertEqual(word_of((PAIR, ())), (1, 1, -2))
        self.assertEqual(word_of((PAIR, PAIR)), (1, 2, 1, -2))
        self.assertEqual(word_of(((PAIR, ()), ())), (1, 1, -2, 1, 3, -2, -2))

    def test_terms(self):
        for term in reference.mixed_terms():
            word = word_of(term)
            self.assertEqual(word, word_reference.term_word(term))
            self.assertIs(type(word), tuple)

    def test_equal_terms(self):
        compared = 0
        for term in reference.allowed_terms(6):
            for path in reference.all_paths(term):
                other = reference.stepped(term, path, True)
                if other is not None and reference.allowed(other):
                    self.assertTrue(word_reference.same_images(word_of(term), word_of(other)))
                    compared += 1
        self.assertGreater(compared, 50)

    def test_wrong_terms(self):
        for name, wrong in reference.WRONG_TERMS.items():
            with self.subTest(name), self.assertRaises(InvalidTerm):
                word_of(wrong)


class MoveTests(unittest.TestCase):
    def check_invalid(self, word, moves, position=0):
        with self.assertRaises(InvalidStep) as caught:
            apply_moves(word, moves)
        self.assertEqual(caught.exception.position, position)

    def check_every_move(self, word):
        """Each move that is not an insertion at each index, also at those outside of the word."""
        found = word_reference.moves_of(word)
        for kind in ("cancel", "swap", "braid"):
            for at in range(-len(word) - 3, len(word) + 4):
                if (kind, at) in found:
                    self.assertEqual(apply_moves(word, [(kind, at)]), found[kind, at])
                else:
                    self.check_invalid(word, [(kind, at)])
        return len(found)

    def test_no_moves(self):
        for word in ((), (1,), (1, -1), LONG):
            self.assertEqual(apply_moves(word, []), word)
            self.assertEqual(apply_moves(word, ()), word)

    def test_all_short_words(self):
        for many in range(4):
            for word in word_reference.all_words(many, 4):
                self.check_every_move(word)

    def test_longer_words(self):
        applied = 0
        for word in word_reference.random_words(3, range(4, 30), 3, each=4):
            applied += self.check_every_move(word)
        for word in word_reference.random_words(4, range(4, 30), 40, each=2):
            applied += self.check_every_move(word)
        self.assertGreater(applied, 1000)

    def test_both_ends(self):
        middle = (10, 20, 30)
        for part, kind, after in (
            ((5, -5), "cancel", ()),
            ((-5, 5), "cancel", ()),
            ((5, 7), "swap", (7, 5)),
            ((-7, 5), "swap", (5, -7)),
            ((1, 40), "swap", (40, 1)),
            ((5, 6, 5), "braid", (6, 5, 6)),
            ((-6, 5, 6), "braid", (5, 6, -5)),
        ):
            self.assertEqual(apply_moves(part, [(kind, 0)]), after)
            self.assertEqual(apply_moves(part + middle, [(kind, 0)]), after + middle)
            self.assertEqual(apply_moves(middle + part, [(kind, 3)]), middle + after)
            self.assertEqual(apply_moves(middle + part + middle, [(kind, 3)]), middle + after + middle)
            self.check_invalid(middle + part, [(kind, -len(part))])
            self.check_invalid(middle + part, [(kind, 4)])

    def test_braids_with_all_signs(self):
        self.assertEqual(apply_moves((1, 2, 1), [("braid", 0)]), (2, 1, 2))
        self.assertEqual(apply_moves((-1, -2, -1), [("braid", 0)]), (-2, -1, -2))
        self.assertEqual(apply_moves((1, 2, -1), [("braid", 0)]), (-2, 1, 2))
        self.assertEqual(apply_moves((1, -2, -1), [("braid", 0)]), (-2, -1, 2))
        self.assertEqual(apply_moves((-1, 2, 1), [("braid", 0)]), (2, 1, -2))
        self.assertEqual(apply_moves((-1, -2, 1), [("braid", 0)]), (2, -1, -2))
        self.check_invalid((1, -2, 1), [("braid", 0)])
        self.check_invalid((-1, 2, -1), [("braid", 0)])
        self.assertEqual(apply_moves((2, 1, 2), [("braid", 0)]), (1, 2, 1))
        self.assertEqual(apply_moves((2, 1, -2), [("braid", 0)]), (-1, 2, 1))
        self.assertEqual(apply_moves((40, -39, -40), [("braid", 0)]), (-39, -40, 39))

    def test_braids_of_other_letters(self):
        for word in ((1, 1, 1), (1, 1, -1), (1, 3, 1), (3, 1, -3), (1, 2, 3), (1, 2, 2), (2, 1, -3), (1, -1, 1)):
            self.check_invalid(word, [("braid", 0)])

    def test_insertions(self):
        for word in ((), (1,), (1, -2, 3), LONG):
            for at in range(len(word) + 1):
                for k in (1, -1, 7, 40, -40):
                    result = apply_moves(word, [("insert", at, k)])
                    self.assertEqual(result, word[:at] + (k, -k) + word[at:])
            for at in (-1, -2, -len(word) - 1, len(word) + 1, len(word) + 2, 10**29, -(10**29)):
                self.check_invalid(word, [("insert", at, 1)])
            for k in word_reference.WRONG_LETTERS:
                for at in (0, len(word)):
                    self.check_invalid(word, [("insert", at, k)])

    def test_tuples_that_are_not_moves(self):
        word = (1, -1, 3, 1, 2, 1)
        for wrong in (
            ("cancel",), ("swap",), ("braid",), ("insert",), ("",),
            ("cancel", 0, 1), ("cancel", 0, 0), ("swap", 1, 1), ("braid", 3, 1), ("insert", 0),
            ("insert", 0, 1, 1), ("insert", 0, 1, 0, 0), ("cancel", 0, 0, 0), ("braid", 3, 0, 0),
            ("", 0), ("", 0, 1), ("Cancel", 0), ("cancel ", 0), ("cance", 0), ("INSERT", 0, 1), ("remove", 0),
            ("unknown", 0, 1), ("x" * 400, 0), ("insert swap", 1), ("cancel", 10**29), ("swap", -(10**29)),
        ):
            with self.subTest(wrong):
                self.check_invalid(word, [wrong])
                self.check_invalid(word, [("cancel", 0), wrong], 1)

    def test_first_invalid_move(self):
        undo = [("insert", 1, 5), ("cancel", 1)]
        for many in (0, 1, 3, 500):
            for wrong in (("cancel", 0), ("swap", 2), ("braid", 1), ("insert", 4, 1), ("none", 0), ("insert", 0, 41)):
                for rest in ([], [("none", 0)], undo):
                    moves = undo * many + [wrong] + rest
                    self.check_invalid((1, 2, 3), moves, 2 * many)
                    self.check_invalid((1, 2, 3), tuple(moves), 2 * many)

    def test_wrong_words_come_first(self):
        for wrong in WRONG_WORDS:
            for moves in ([], (), [("none", 0)], [("cancel", 0)], [("insert", 0, 41)], [("insert", 0, 1)]):
                with self.assertRaises(InvalidWord):
                    apply_moves(wrong, moves)

    def test_many_moves(self):
        choice = random.Random(6)
        for start in ((), (1, 2, -1, -3), (5, -4, 3, 3, -2, 1)):
            word, moves = word_reference.changed_word(choice, start, 300, 6)
            kept = list(moves)
            self.assertEqual(apply_moves(start, moves), word)
            self.assertEqual(apply_moves(start, tuple(moves)), word)
            self.assertEqual(moves, kept)
            self.assertIs(type(apply_moves(start, moves)), tuple)

    def test_words_of_more_than_three_hundred_letters(self):
        for at in (0, 150, 300):
            result = apply_moves(LONG, [("insert", at, 9)])
            self.assertEqual(result, LONG[:at] + (9, -9) + LONG[at:])
        moves = [("insert", 300 + 2 * many, 5) for many in range(500)]
        self.assertEqual(apply_moves(LONG, moves), LONG + (5, -5) * 500)
        moves += [("cancel", 301)] * 499
        self.assertEqual(apply_moves(LONG, moves), LONG + (5, -5))
        self.check_invalid(LONG, moves + [("cancel", 301)], 999)
        self.assertEqual(apply_moves(LONG, moves + [("cancel", 300)]), LONG)

    def test_lists_of_a_hundred_thousand_moves(self):
        self.assertEqual(apply_moves(LONG, [("insert", 0, -3)] * 100000), (-3, 3) * 100000 + LONG)
        inside_out = [("insert", 0, 2)] * 50000 + [("cancel", 0)] * 50000
        self.assertEqual(apply_moves((7,), inside_out), (7,))
        self.assertEqual(apply_moves((1, 3), [("swap", 0)] * 100001), (3, 1))
        self.assertEqual(apply_moves((1, 2, 1), [("braid", 0)] * 100000), (1, 2, 1))
        self.check_invalid((1, 2, 1), [("braid", 0)] * 99999 + [("swap", 0)], 99999)


class ImageTests(unittest.TestCase):
    def test_single_letters(self):
        self.assertEqual([image_of((1,), symbol) for symbol in (1, 2, 3)], [(1, 2, -1), (1,), (3,)])
        self.assertEqual([image_of((-1,), symbol) for symbol in (1, 2, 3)], [(2,), (-2, 1, 2), (3,)])
        self.assertEqual([image_of((40,), symbol) for symbol in (39, 40, 41)], [(39,), (40, 41, -40), (40,)])
        self.assertEqual([image_of((-40,), symbol) for symbol in (39, 40, 41)], [(39,), (41,), (-41, 40, 41)])
        for letter in range(-40, 41):
            for symbol in range(1, 42) if letter else ():
                self.assertEqual(image_of((letter,), symbol), word_reference.letter_image(letter, symbol))

    def test_last_letter_is_applied_first(self):
        self.assertEqual(image_of((1, 2), 2), (1, 3, -1))
        self.assertEqual(image_of((2, 1), 2), (1,))
        self.assertEqual(image_of((2, 1), 1), (1, 2, 3, -2, -1))
        self.assertEqual(image_of((1, 2), 1), (1, 2, -1))

    def test_empty_word(self):
        for symbol in range(1, 42):
            self.assertEqual(image_of((), symbol), (symbol,))

    def test_words(self):
        words = word_reference.random_words(7, range(1, 11), 3, each=20)
        words += word_reference.random_words(8, range(1, 11), 6, each=10)
        for word in words:
            for symbol in range(1, 9):
                result = image_of(word, symbol)
                self.assertEqual(result, word_reference.image(word, symbol))
                self.assertIs(type(result), tuple)
        for word in word_reference.random_words(9, range(1, 11), 40, each=3):
            for symbol in range(1, 42):
                self.assertEqual(image_of(word, symbol), word_reference.image(word, symbol))

    def test_long_images(self):
        for word in ((1, -2) * 5, (-1, 2) * 5, (2, -1, -1) * 3 + (2,), (1,) * 10, (1, -2, 3, -4, 1, -2, 3, -4, 1, -2)):
            for symbol in range(1, 7):
                self.assertEqual(image_of(word, symbol), word_reference.image(word, symbol))

    def test_word_and_its_inverse(self):
        for word in word_reference.random_words(10, range(6), 5, each=10):
            for symbol in (*range(1, 8), 40, 41):
                self.assertEqual(image_of(word + inverse(word), symbol), (symbol,))

    def test_equivalent_words(self):
        choice = random.Random(11)
        compared = 0
        for word in word_reference.random_words(12, range(9), 4, each=30):
            other, moves = word_reference.changed_word(choice, word, 12, 4)
            if len(other) <= 10 and other != word:
                compared += 1
                for symbol in range(1, 7):
                    self.assertEqual(image_of(word, symbol), image_of(other, symbol))
        self.assertGreater(compared, 50)

    def test_words_with_one_and_without_its_opposite(self):
        for word in word_reference.random_words(13, range(1, 11), 4, each=40):
            word = tuple(1 if letter == -1 else letter for letter in word)
            if 1 in word:
                self.assertEqual(image_of(word, 1)[-1], -1)

    def test_errors_in_order(self):
        for wrong in WRONG_WORDS:
            for symbol in (1, 41, 0, 42, -1):
                with self.assertRaises(InvalidWord):
                    image_of(wrong, symbol)
        for many in (11, 12, 299, 300):
            for symbol in (1, 41, 0, 42, -1):
                with self.assertRaises(TooLarge) as caught:
                    image_of((3,) * many, symbol)
                self.assertEqual(caught.exception.size, many)
        for word in ((), (1,), (1,) * 10):
            for symbol in (0, -1, -41, 42, 43, 10**29, -(10**29)):
                with self.assertRaises(InvalidIndex):
                    image_of(word, symbol)


def acted(terms, word):
    terms = list(terms)
    for k in word:
        a, b = terms[k - 1 : k + 1]
        terms = terms[: k - 1] + [(a, b), a] + terms[k + 1 :]
    return terms


class ActionTests(unittest.TestCase):
    def test_lists_of_terms(self):
        choice = random.Random(14)
        terms = reference.mixed_terms()
        for many in range(1, 8):
            for letters in range(6):
                for again in range(5):
                    chosen = [choice.choice(terms) for term in range(many)]
                    word = tuple(choice.randint(1, many - 1) for letter in range(letters)) if many > 1 else ()
                    kept = list(chosen)
                    result = act_on(chosen, word)
                    self.assertEqual(result, acted(chosen, word))
                    self.assertIs(type(result), list)
                    self.assertEqual(chosen, kept)
                    self.assertEqual(act_on(tuple(chosen), word), result)
                    result.append(())
                    self.assertEqual(chosen, kept)
                    self.assertEqual(act_on(chosen, word), result[:-1])

    def test_letters_act_in_turn(self):
        a, b, c = (), PAIR, THREE
        self.assertEqual(act_on([a, b, c], (1, 2)), [(a, b), (a, c), a])
        self.assertEqual(act_on([a, b, c], (2, 1)), [(a, (b, c)), a, b])
        self.assertEqual(act_on([a, b, c], (1, 2, 1)), [((a, b), (a, c)), (a, b), a])
        self.assertEqual(act_on([a, b, c], (2, 1, 2)), [(a, (b, c)), (a, b), a])

    def test_empty_lists_and_words(self):
        self.assertEqual(act_on([], ()), [])
        self.assertEqual(act_on((), ()), [])
        self.assertEqual(act_on([()], ()), [()])
        terms = [PAIR, ()]
        result = act_on(terms, ())
        result.append(())
        self.assertEqual(terms, [PAIR, ()])

    def test_letters_out_of_range(self):
        for many in range(0, 8):
            terms = [()] * many
            for wrong in (0, -1, many, many + 1, -many, 40, 41, -40):
                for word in ((wrong,), (1, wrong) if many > 1 else (wrong,), (wrong, 1)):
                    with self.assertRaises(InvalidWord):
                        act_on(terms, word)

    def test_long_lists(self):
        terms = [()] * 50
        self.assertEqual(act_on(terms, (40,)), [()] * 39 + [PAIR] + [()] * 10)
        # Number 41 is below the number of terms, but it is not a letter.
        for wrong in (41, 49):
            with self.assertRaises(InvalidWord):
                act_on(terms, (wrong,))
        self.assertEqual(act_on([()] * 200, (1, 40)), [PAIR] + [()] * 38 + [PAIR] + [()] * 160)

    def test_long_words(self):
        terms = [(), (), ()]
        self.assertEqual(act_on(terms, (1, 2, 1, 2, 1)), acted(terms, (1, 2, 1, 2, 1)))
        for many in (6, 7, 300, 301):
            with self.assertRaises(InvalidWord):
                act_on(terms, (1,) * many)
        for wrong in WRONG_WORDS:
            with self.assertRaises(InvalidWord):
                act_on(terms, wrong)

    def test_large_results(self):
        terms = [reference.balanced(3), reference.left_comb(7), (reference.left_comb(6), reference.right_comb(6))]
        self.assertEqual(act_on(terms, (2, 1, 2, 1, 1)), acted(terms, (2, 1, 2, 1, 1)))

    def test_wrong_terms_come_first(self):
        for name, wrong in reference.WRONG_TERMS.items():
            for terms in ([wrong], [(), wrong], [wrong, ()], [(), (), PAIR, wrong]):
                for word in ((), (1,), (0,), (41,), (1,) * 6, (9,)):
                    with self.subTest(name), self.assertRaises(InvalidTerm):
                        act_on(terms, word)


if __name__ == "__main__":
    unittest.main()
