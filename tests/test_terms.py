"""Terms: the promises [3], [4] and [5] and the interface of uponboth/terms.py."""

import unittest
from math import comb

from tests import reference
from uponboth import terms
from uponboth.errors import InvalidIndex, InvalidSize, InvalidTerm, InvalidText
from uponboth.terms import (
    count_terms,
    depth_of,
    format_term,
    index_of,
    is_term,
    left_spine,
    parse_term,
    size_of,
    term_at,
)

TAKE_A_TERM = [size_of, depth_of, format_term, index_of, left_spine]


class BoundTests(unittest.TestCase):
    def test_constants(self):
        self.assertEqual((terms.MAX_SIZE, terms.MAX_DEPTH), (12, 6))

    def test_every_term_is_judged_by_size_and_depth(self):
        for size in range(1, 11):
            for term in reference.terms_of_size(size):
                self.assertIs(is_term(term), reference.depth(term) <= 6, reference.text(term))

    def test_terms_at_the_bounds(self):
        for term in [
            reference.left_comb(7),
            reference.right_comb(7),
            (reference.balanced(3), reference.balanced(2)),
            (reference.left_comb(6), reference.right_comb(6)),
            (reference.right_comb(6), reference.left_comb(6)),
        ]:
            self.assertIs(is_term(term), True)

    def test_wrong_tuples_are_no_terms(self):
        for name, wrong in reference.WRONG_TERMS.items():
            with self.subTest(name):
                self.assertIs(is_term(wrong), False)
                self.assertIs(is_term(((), ())), True)

    def test_a_very_large_tuple_is_no_term(self):
        self.assertIs(is_term(reference.balanced(20)), False)
        self.assertIs(is_term((reference.balanced(20), ((),))), False)

    def test_functions_refuse_wrong_tuples_and_go_on(self):
        good = ((), ((), ()))
        for function in TAKE_A_TERM:
            before = function(good)
            for name, wrong in reference.WRONG_TERMS.items():
                with self.subTest(function=function.__name__, wrong=name):
                    with self.assertRaises(InvalidTerm):
                        function(wrong)
                    self.assertEqual(function(good), before)

    def test_size_and_depth(self):
        for term in reference.mixed_terms():
            self.assertEqual(size_of(term), reference.size(term))
            self.assertEqual(depth_of(term), reference.depth(term))

    def test_size_and_depth_of_combs(self):
        for size in range(1, 8):
            for term in (reference.left_comb(size), reference.right_comb(size)):
                self.assertEqual((size_of(term), depth_of(term)), (size, size - 1))

    def test_parameters_have_their_names(self):
        term = (((), ()), ())
        self.assertIs(is_term(term=term), True)
        self.assertEqual(size_of(term=term), 3)
        self.assertEqual(depth_of(term=term), 2)
        self.assertEqual(format_term(term=term), "((xx)x)")
        self.assertEqual(parse_term(text="((xx)x)"), term)
        self.assertEqual(count_terms(size=3), 2)
        self.assertEqual(index_of(term=term), 1)
        self.assertEqual(term_at(size=3, index=1), term)
        self.assertEqual(left_spine(term=term), [term, ((), ()), ()])


class TextTests(unittest.TestCase):
    def test_texts(self):
        self.assertEqual(format_term(()), "x")
        self.assertEqual(format_term(((), ((), ()))), "(x(xx))")
        self.assertEqual(format_term((((), ()), ())), "((xx)x)")
        self.assertEqual(format_term(reference.left_comb(7)), "((((((xx)x)x)x)x)x)")
        self.assertEqual(format_term(reference.right_comb(7)), "(x(x(x(x(x(xx))))))")

    def test_parsing_a_text_returns_the_term(self):
        for term in reference.mixed_terms():
            text = format_term(term)
            self.assertEqual(text, reference.text(term))
            parsed = parse_term(text)
            self.assertEqual(parsed, term)
            self.assertIs(type(parsed), tuple)

    def test_fixed_positions(self):
        for text, position in [
            ("", 0),
            (" ", 0),
            ("\n", 0),
            (")", 0),
            ("X", 0),
            ("xx", 1),
            ("x ", 1),
            ("x\n", 1),
            ("x)", 1),
            ("x(", 1),
            ("(", 1),
            ("()", 1),
            ("(x", 2),
            ("(x)", 2),
            ("( xx)", 1),
            ("(x x)", 2),
            ("(xx", 3),
            ("(xxx)", 3),
            ("(xx(", 3),
            ("(xx))", 4),
            ("(xx)x", 4),
            ("(xx)(", 4),
            ("(x(xx)", 6),
            ("(x(xx)x)", 6),
            ("((xx))", 5),
            ("(" * 400, 400),
            ("(" * 400 + "x" * 3, 402),
            ("(x" * 200 + "x" + ")" * 201, 601),
            ("x" * 400, 1),
        ]:
            with self.subTest(text):
                self.check_wrong(text, position)

    def check_wrong(self, text, position):
        with self.assertRaises(InvalidText) as caught:
            parse_term(text)
        self.assertEqual(caught.exception.position, position)

    def check_any(self, text):
        position = reference.first_wrong(text)
        if position is not None:
            self.check_wrong(text, position)
            return
        try:
            parsed = parse_term(text)
        except InvalidTerm:
            self.assertFalse(reference.allowed(reference.term_of(text)), text)
            return
        self.assertEqual(reference.text(parsed), text)
        self.assertTrue(reference.allowed(parsed), text)

    def test_texts_with_one_change(self):
        whole = reference.allowed_terms(5) + reference.comb_terms()[::5] + reference.mixed_terms()[700::150]
        for text in [reference.text(term) for term in whole]:
            for at in range(len(text) + 1):
                for sign in "x()y X~\n01":
                    self.check_any(text[:at] + sign + text[at:])
                    self.check_any(text[:at] + sign + text[at + 1:])
                self.check_any(text[:at] + text[at + 1:])
                self.check_any(text[:at])

    def test_all_short_texts(self):
        texts = [""]
        for length in range(8):
            for text in texts:
                self.check_any(text)
            texts = [text + sign for text in texts for sign in "x()"]

    def test_terms_outside_the_bounds(self):
        for term in [
            reference.left_comb(8),
            reference.right_comb(8),
            reference.left_comb(13),
            reference.right_comb(100),
            reference.left_comb(100),
            reference.balanced(4),
            reference.balanced(7),
            (reference.balanced(3), (reference.balanced(2), ())),
        ]:
            text = reference.text(term)
            with self.subTest(text):
                with self.assertRaises(InvalidTerm):
                    parse_term(text)
                self.check_wrong(text + ")", len(text))
                self.check_wrong(text[:-1], len(text) - 1)
        self.assertEqual(parse_term("(xx)"), ((), ()))

    def test_deep_text(self):
        with self.assertRaises(InvalidTerm):
            parse_term("(x" * 3000 + "x" + ")" * 3000)
        with self.assertRaises(InvalidTerm):
            parse_term("(" * 3000 + "x" + "x)" * 3000)


class OrderTests(unittest.TestCase):
    def test_counts_by_a_product(self):
        for size in range(1, 31):
            self.assertEqual(count_terms(size), comb(2 * size - 2, size - 1) // size)

    def test_counts_by_a_sum_over_both_operands(self):
        for size in range(2, 31):
            total = sum(count_terms(left) * count_terms(size - left) for left in range(1, size))
            self.assertEqual(count_terms(size), total)

    def test_counts_by_listing(self):
        for size in range(1, 11):
            self.assertEqual(count_terms(size), len(reference.terms_of_size(size)))

    def test_counts_out_of_range(self):
        for size in (0, -1, 31, 32, 10**29, -(10**29)):
            with self.subTest(size), self.assertRaises(InvalidSize):
                count_terms(size)

    def test_terms_stand_in_order(self):
        for size in range(1, 11):
            for index, term in enumerate(reference.terms_of_size(size)):
                self.assertEqual(term_at(size, index), term)

    def test_terms_of_larger_sizes(self):
        for size in (11, 12):
            listed = reference.terms_of_size(size)
            for index in [*range(0, len(listed), 97), len(listed) - 1]:
                self.assertEqual(term_at(size, index), listed[index])

    def test_indexes(self):
        for size in range(1, 13):
            for index, term in list(enumerate(reference.terms_of_size(size)))[:: 1 if size < 10 else 41]:
                if reference.allowed(term):
                    self.assertEqual(index_of(term), index)
                    self.assertEqual(term_at(size, index_of(term)), term)

    def test_terms_that_are_too_deep_have_a_place(self):
        self.assertEqual(term_at(12, 0), reference.right_comb(12))
        self.assertEqual(term_at(12, 58785), reference.left_comb(12))

    def test_wrong_size_comes_before_wrong_index(self):
        for size in (0, -1, 13, 30, 10**29, -(10**29)):
            for index in (0, -1, 10**29):
                with self.subTest(size=size, index=index), self.assertRaises(InvalidSize):
                    term_at(size, index)

    def test_wrong_index(self):
        for size in range(1, 13):
            for index in (-1, count_terms(size), count_terms(size) + 1, 10**29, -(10**29)):
                with self.subTest(size=size, index=index), self.assertRaises(InvalidIndex):
                    term_at(size, index)
            self.assertEqual(reference.size(term_at(size, count_terms(size) - 1)), size)


class SpineTests(unittest.TestCase):
    def test_spine(self):
        self.assertEqual(left_spine(()), [()])
        self.assertEqual(left_spine((((), ()), ())), [(((), ()), ()), ((), ()), ()])
        for term in reference.mixed_terms():
            spine = left_spine(term)
            self.assertIs(type(spine), list)
            self.assertEqual(spine[0], term)
            self.assertEqual(spine[-1], ())
            for upper, lower in zip(spine, spine[1:]):
                self.assertEqual(upper[0], lower)

    def test_changing_the_list_has_no_effect(self):
        term = (((), ()), ())
        spine = left_spine(term)
        spine.clear()
        self.assertEqual(left_spine(term), [(((), ()), ()), ((), ()), ()])
        self.assertEqual(term, (((), ()), ()))


if __name__ == "__main__":
    unittest.main()
