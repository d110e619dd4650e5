"""Rewriting: the promises [6] and [7] and the interface of uponboth/rewriting.py."""

import unittest
from unittest import mock

from tests import reference
from uponboth import rewriting
from uponboth.errors import (
    InvalidPath,
    InvalidStep,
    InvalidTerm,
    NotRewritable,
    PathNotFound,
    TooLarge,
)
from uponboth.rewriting import (
    apply_steps,
    contract,
    contractible_paths,
    expand,
    expandable_paths,
    full_expansion,
    full_expansion_paths,
    subterm,
)

TERMS = reference.mixed_terms()
PAIR = ((), ())
THREE = ((), PAIR)
SQUARE = (PAIR, PAIR)
WRONG_PATHS = ["2", " ", "x", "0 ", " 0", "0\n", "01a10", "-", "a0", "0a", "0" * 61, "1" * 61, "0" * 60 + "a", "01" * 200]


class SubtermTests(unittest.TestCase):
    def test_every_path_of_a_term(self):
        for term in TERMS:
            for path in reference.all_paths(term):
                self.assertEqual(subterm(term, path), reference.part_at(term, path))

    def test_paths_below_a_generator(self):
        for term in TERMS[::10]:
            for path in reference.all_paths(term):
                if reference.part_at(term, path) == ():
                    for more in ("0", "1", "01", "1" * (60 - len(path))):
                        with self.assertRaises(PathNotFound):
                            subterm(term, path + more)

    def test_length_of_a_path(self):
        for sign in "01":
            for function in (subterm, expand, contract):
                with self.assertRaises(PathNotFound):
                    function(THREE, sign * 60)
                with self.assertRaises(InvalidPath):
                    function(THREE, sign * 61)

    def test_parameters_have_their_names(self):
        self.assertEqual(subterm(term=THREE, path="1"), PAIR)
        self.assertEqual(expand(term=THREE, path=""), SQUARE)
        self.assertEqual(contract(term=SQUARE, path=""), THREE)
        self.assertEqual(expandable_paths(term=THREE), [""])
        self.assertEqual(contractible_paths(term=SQUARE), [""])
        self.assertEqual(apply_steps(term=THREE, steps=[("", True)]), SQUARE)
        self.assertEqual(full_expansion(term=PAIR), PAIR)
        self.assertEqual(full_expansion_paths(term=PAIR), [])


class OrderOfErrorsTests(unittest.TestCase):
    def test_wrong_terms_come_first(self):
        for name, wrong in reference.WRONG_TERMS.items():
            for function in (subterm, expand, contract):
                for path in ("", "0", "2", "0" * 61, "1" * 60):
                    with self.subTest(function=function.__name__, wrong=name, path=path):
                        with self.assertRaises(InvalidTerm):
                            function(wrong, path)
            for steps in ([], (), [("2", True)], [("", True)]):
                with self.subTest(wrong=name), self.assertRaises(InvalidTerm):
                    apply_steps(wrong, steps)
            for function in (expandable_paths, contractible_paths, full_expansion, full_expansion_paths):
                with self.subTest(function=function.__name__, wrong=name):
                    with self.assertRaises(InvalidTerm):
                        function(wrong)
        self.assertEqual(subterm(THREE, "1"), PAIR)
        self.assertEqual(expand(THREE, ""), SQUARE)
        self.assertEqual(full_expansion(PAIR), PAIR)

    def test_wrong_paths_come_second(self):
        for function in (subterm, expand, contract):
            for term in ((), THREE, SQUARE, reference.left_comb(7)):
                for path in WRONG_PATHS:
                    with self.subTest(function=function.__name__, path=path):
                        with self.assertRaises(InvalidPath):
                            function(term, path)

    def test_missing_paths_come_before_other_forms(self):
        for function in (expand, contract):
            for path in ("0", "1", "01", "1" * 60):
                with self.assertRaises(PathNotFound):
                    function((), path)
            with self.assertRaises(NotRewritable):
                function((), "")


class StepTests(unittest.TestCase):
    def check_steps(self, function, back, expanding):
        for term in TERMS:
            text = reference.text(term)
            for path in reference.all_paths(term):
                goal = reference.stepped(term, path, expanding)
                if goal is None:
                    with self.assertRaises(NotRewritable):
                        function(term, path)
                    continue
                self.assertEqual(function(term, path), goal)
                if reference.allowed(goal):
                    self.assertEqual(back(goal, path), term)
            self.assertEqual(reference.text(term), text)

    def test_expand(self):
        self.check_steps(expand, contract, True)

    def test_contract(self):
        self.check_steps(contract, expand, False)

    def test_results_may_be_larger(self):
        whole = reference.right_comb(7)
        self.assertEqual(reference.depth(expand((reference.left_comb(6), PAIR), "")), 7)
        self.assertEqual(reference.size(expand((reference.balanced(3), PAIR), "")), 18)
        self.assertEqual(reference.size(expand(whole, "")), 8)

    def test_copies_must_be_identical(self):
        # The two left operands are equal by a step, but not identical.
        term = ((THREE, ()), (SQUARE, ()))
        with self.assertRaises(NotRewritable):
            contract(term, "")
        self.assertEqual(contract(((THREE, ()), (THREE, ())), ""), (THREE, PAIR))
        for term in ((), PAIR, THREE, (PAIR, ()), (PAIR, (PAIR, ()))):
            with self.assertRaises(NotRewritable):
                contract(term, "")


class PathListTests(unittest.TestCase):
    def check_paths(self, function, expanding):
        for term in TERMS:
            paths = [
                path for path in reference.all_paths(term) if reference.stepped(term, path, expanding) is not None
            ]
            self.assertEqual(function(term), paths)
            self.assertEqual(paths, sorted(paths))

    def test_expandable_paths(self):
        self.check_paths(expandable_paths, True)
        self.assertEqual(expandable_paths(()), [])
        self.assertEqual(expandable_paths(PAIR), [])
        self.assertEqual(expandable_paths(((), THREE)), ["", "1"])

    def test_contractible_paths(self):
        self.check_paths(contractible_paths, False)
        self.assertEqual(contractible_paths(()), [])
        self.assertEqual(contractible_paths(THREE), [])
        self.assertEqual(contractible_paths((SQUARE, SQUARE)), ["", "0", "1"])

    def test_changing_a_list_has_no_effect(self):
        for function, term in ((expandable_paths, ((), THREE)), (contractible_paths, (SQUARE, SQUARE))):
            paths = function(term)
            self.assertIs(type(paths), list)
            kept = list(paths)
            paths.append("0")
            self.assertEqual(function(term), kept)


class StepListTests(unittest.TestCase):
    def check_invalid(self, term, steps, position):
        with self.assertRaises(InvalidStep) as caught:
            apply_steps(term, steps)
        self.assertEqual(caught.exception.position, position)

    def check_too_large(self, term, steps, size):
        with self.assertRaises(TooLarge) as caught:
            apply_steps(term, steps)
        self.assertEqual(caught.exception.size, size)

    def test_empty_lists(self):
        for term in TERMS[::20]:
            self.assertEqual(apply_steps(term, []), term)
            self.assertEqual(apply_steps(term, ()), term)

    def test_one_step(self):
        for term in TERMS[::5]:
            for path in reference.all_paths(term):
                for expanding in (True, False):
                    goal = reference.stepped(term, path, expanding)
                    if goal is None:
                        self.check_invalid(term, [(path, expanding)], 0)
                    else:
                        self.assertEqual(apply_steps(term, [(path, expanding)]), goal)

    def test_lists_and_tuples_are_not_changed(self):
        steps = [("", True), ("1", True), ("1", False), ("", False)]
        kept = list(steps)
        term = ((), ((), THREE))
        self.assertEqual(apply_steps(term, steps), term)
        self.assertEqual(apply_steps(term, tuple(steps)), term)
        self.assertEqual(steps, kept)

    def test_first_invalid_step(self):
        undo = [("", True), ("", False)]
        for many in (0, 1, 5, 500):
            for wrong in [("2", True), ("0" * 61, False), ("0000", True), ("0", True), ("", False), ("1", False)]:
                for rest in ([], [("2", True)], undo):
                    self.check_invalid(THREE, undo * many + [wrong] + rest, 2 * many)
                    self.check_invalid(THREE, tuple(undo * many + [wrong] + rest), 2 * many)

    def test_example(self):
        self.check_invalid(THREE, [("", True), ("0", False)], 1)

    def test_terms_beyond_the_bounds_between(self):
        start, steps, term, path = reference.deep_steps(20)
        self.assertEqual(apply_steps(start, steps), term)
        self.assertGreater(reference.size(term), 100)
        self.assertGreater(reference.depth(term), 20)
        back = [(path, False) for path, expanding in reversed(steps)]
        self.assertEqual(apply_steps(start, steps + back), start)

    def test_size_of_two_thousand(self):
        for term in (((), THREE), reference.right_comb(7), (reference.left_comb(6), reference.right_comb(5))):
            steps = reference.greedy_steps(term, 2000)
            result = apply_steps(term, steps)
            self.assertEqual(reference.size(result), 2000)
            back = [(path, False) for path, expanding in reversed(steps)]
            self.assertEqual(apply_steps(term, steps + back), term)
            for path in reference.all_paths(result)[::50]:
                beyond = reference.stepped(result, path, True) if len(path) <= 60 else None
                if beyond is not None:
                    size = reference.size(beyond)
                    self.check_too_large(term, steps + [(path, True)], size)
                    self.check_too_large(term, steps + [(path, True), (path, False)], size)
                    self.check_too_large(term, steps + [(path, True), ("2", True)], size)
                    self.check_invalid(term, steps + [("2", True), (path, True)], len(steps))

    def test_just_above_two_thousand(self):
        term = ((), THREE)
        self.check_too_large(term, reference.greedy_steps(term, 2001), 2001)
        self.assertEqual(reference.size(apply_steps(term, reference.greedy_steps(term, 1999))), 1999)

    def test_steps_at_the_root(self):
        # The sizes are one more than Fibonacci's numbers: 3, 4, 6, 9, 14 and so on.
        size, after, many = 2, 3, 0
        while size + 1 <= 2000:
            self.assertEqual(reference.size(apply_steps(THREE, [("", True)] * many)), size + 1)
            size, after, many = after, size + after, many + 1
        self.check_too_large(THREE, [("", True)] * many, 2585)
        self.check_too_large(THREE, [("", True)] * (many + 1), 2585)
        self.check_too_large(THREE, [("", True)] * many + [("2", True)], 2585)

    def test_long_lists(self):
        steps = reference.greedy_steps(THREE, 1200)
        last = apply_steps(THREE, steps)
        path = max(
            (reference.size(reference.part_at(last, path)[0]), path)
            for path in reference.all_paths(last)
            if len(path) <= 60 and reference.stepped(last, path, True) is not None
            and reference.size(reference.part_at(last, path)[0]) <= 800
        )[1]
        self.assertEqual(apply_steps(THREE, steps + [(path, True), (path, False)] * 49990), last)
        self.check_invalid(THREE, steps + [(path, True), (path, False)] * 49990 + [("0" * 60, True)], len(steps) + 99980)

    def test_longest_path(self):
        start, steps, term, path = reference.deep_steps(60)
        self.assertEqual(len(path), 60)
        after = reference.stepped(term, path, True)
        self.assertEqual(apply_steps(start, steps), term)
        self.assertEqual(apply_steps(start, steps + [(path, True)]), after)
        self.assertEqual(apply_steps(start, steps + [(path, True), (path, False)]), term)
        back = [(path, False) for path, expanding in reversed(steps)]
        self.assertEqual(apply_steps(start, steps + back), start)

    def test_longer_path(self):
        start, steps, term, path = reference.deep_steps(61)
        self.assertIsNotNone(reference.stepped(term, path, True))
        self.assertEqual(apply_steps(start, steps), term)
        self.check_invalid(start, steps + [(path, True)], len(steps))

    def test_long_walk(self):
        start = reference.right_comb(7)
        steps, term = reference.long_walk(start, 2000, 60)
        self.assertEqual(apply_steps(start, steps), term)
        self.check_invalid(start, steps + [("0" * 60, True)], 2000)

    def test_renewed_numbers(self):
        """A long list of steps gives the terms new numbers from time to time."""
        start = reference.right_comb(7)
        steps, term = reference.long_walk(start, 1000, 60)
        for limit in (1, 100, 1000):
            with mock.patch.object(rewriting, "MAX_POOL", limit):
                self.assertEqual(apply_steps(start, steps), term)
                self.check_invalid(start, steps + [("0" * 60, True)], 1000)
                self.check_too_large(THREE, [("", True)] * 20, 2585)


class FullExpansionTests(unittest.TestCase):
    def check_too_large(self, function, term, size):
        with self.assertRaises(TooLarge) as caught:
            function(term)
        self.assertEqual(caught.exception.size, size)

    def test_fixed_results(self):
        self.assertEqual(full_expansion(()), ())
        self.assertEqual(full_expansion(PAIR), PAIR)
        self.assertEqual(full_expansion(THREE), SQUARE)
        self.assertEqual(full_expansion((PAIR, ())), (PAIR, ()))
        self.assertEqual(full_expansion(SQUARE), ((PAIR, ()), (PAIR, ())))

    def test_terms_and_their_paths(self):
        larger = 0
        for term in TERMS:
            goal = reference.full_text(term)
            size = goal.count("x")
            if size > 500:
                larger += 1
                self.check_too_large(full_expansion, term, size)
                self.check_too_large(full_expansion_paths, term, size)
                continue
            result = full_expansion(term)
            self.assertEqual(reference.text(result), goal)
            paths = full_expansion_paths(term)
            self.assertEqual(apply_steps(term, [(path, True) for path in paths]), result)
            self.assertEqual(apply_steps(term, tuple([(path, True) for path in paths])), result)
        self.assertGreater(larger, 0)

    def test_sizes_near_the_limit(self):
        sizes = {}
        for term in reference.allowed_terms(12):
            sizes.setdefault(full_size(term), term)
        below = max(size for size in sizes if size <= 500)
        above = min(size for size in sizes if size > 500)
        self.assertEqual(full_size(sizes[below]), below)
        self.assertEqual(reference.text(full_expansion(sizes[below])), reference.full_text(sizes[below]))
        for size in (above, max(sizes)):
            self.check_too_large(full_expansion, sizes[size], size)
            self.check_too_large(full_expansion_paths, sizes[size], size)
        self.assertEqual((below, above, max(sizes)), (500, 504, 1056))

    def test_paths_by_reference_steps(self):
        for term in TERMS[::40]:
            if full_size(term) <= 200:
                goal = term
                for path in full_expansion_paths(term):
                    goal = reference.stepped(goal, path, True)
                self.assertEqual(reference.text(goal), reference.full_text(term))

    def test_changing_the_list_has_no_effect(self):
        paths = full_expansion_paths(SQUARE)
        self.assertIs(type(paths), list)
        self.assertEqual(paths, [""])
        paths.append("0")
        self.assertEqual(full_expansion_paths(SQUARE), [""])


def full_size(term):
    return reference.full_text(term).count("x")


if __name__ == "__main__":
    unittest.main()
