"""Expansions: the promises [5] and [8] and the interface of uponboth/expansions.py."""

import functools
import unittest

from tests import reference
from uponboth.errors import InvalidSize, InvalidTerm, TooLarge
from uponboth.expansions import common_expansion, expansions
from uponboth.rewriting import apply_steps

PAIR = ((), ())
THREE = ((), PAIR)
SQUARE = (PAIR, PAIR)
# 500 expansions up to the default limit, and 501 up to the size 16.
FIVE_HUNDRED = reference.term_of("((x(((xx)x)x))(((xx)x)x))")
ONE_MORE = reference.term_of("((x(xx))(x(x((xx)(x(xx))))))")


def ordered(one, other):
    """The order of [5] between two terms, as a negative number, 0 or a positive number."""
    if one == other:
        return 0
    sizes = reference.size(one) - reference.size(other)
    return sizes or ordered(one[0], other[0]) or ordered(one[1], other[1])


def all_expansions(term, limit, most=500):
    """The expansions of a term up to a size, in the order of [5], or None if there are too many."""
    found = {term: True} if reference.size(term) <= limit else {}
    waiting = list(found)
    while waiting and len(found) <= most:
        part = waiting.pop()
        for path in reference.all_paths(part):
            after = reference.stepped(part, path, True)
            if after is not None and after not in found and reference.size(after) <= limit:
                found[after] = True
                waiting.append(after)
    return None if len(found) > most else sorted(found, key=functools.cmp_to_key(ordered))


class ExpansionTests(unittest.TestCase):
    def check_too_large(self, function, limit):
        with self.assertRaises(TooLarge) as caught:
            function()
        self.assertEqual(caught.exception.size, limit)

    def test_fixed_lists(self):
        self.assertEqual(expansions(()), [()])
        self.assertEqual(expansions(PAIR), [PAIR])
        self.assertEqual(expansions(THREE, max_size=2), [])
        self.assertEqual(expansions(THREE, max_size=3), [THREE])
        self.assertEqual(expansions(THREE), [THREE, *expansions(SQUARE)])
        self.assertEqual(expansions(SQUARE, max_size=6), [SQUARE, ((PAIR, ()), (PAIR, ()))])

    def test_terms_up_to_size_six(self):
        places = {}
        for many in range(1, 13):
            for term in reference.terms_of_size(many):
                places[term] = len(places)
        for many in range(1, 7):
            for term in reference.terms_of_size(many):
                # Every step makes a term larger, so a lower limit only leaves terms out.
                found = all_expansions(term, 12, most=10**6)
                self.assertEqual(found, sorted(found, key=places.get))
                for limit in range(1, 13):
                    goal = [part for part in found if reference.size(part) <= limit]
                    if len(goal) > 500:
                        self.check_too_large(lambda: expansions(term, max_size=limit), limit)
                    else:
                        self.assertEqual(expansions(term, max_size=limit), goal)

    def test_combs_with_the_default_limit(self):
        for many in range(1, 8):
            for term in (reference.left_comb(many), reference.right_comb(many)):
                goal = all_expansions(term, 24)
                if goal is None:
                    self.check_too_large(lambda: expansions(term), 24)
                else:
                    self.assertEqual(expansions(term), goal)
                    self.assertEqual(expansions(term, max_size=24), goal)

    def test_larger_terms(self):
        larger = 0
        for term in reference.mixed_terms()[::90]:
            for limit in (12, 20, 30):
                goal = all_expansions(term, limit)
                if goal is None:
                    larger += 1
                    self.check_too_large(lambda: expansions(term, max_size=limit), limit)
                else:
                    self.assertEqual(expansions(term, max_size=limit), goal)
        self.assertGreater(larger, 5)

    def test_term_larger_than_the_limit(self):
        for term in reference.mixed_terms()[::7]:
            size = reference.size(term)
            for limit in range(1, size):
                self.assertEqual(expansions(term, max_size=limit), [])
            self.assertEqual(expansions(term, max_size=size), [term])

    def test_five_hundred(self):
        result = expansions(FIVE_HUNDRED)
        self.assertEqual(len(result), 500)
        self.assertEqual(result, all_expansions(FIVE_HUNDRED, 24))
        self.assertEqual(len(all_expansions(ONE_MORE, 16, most=501)), 501)
        self.check_too_large(lambda: expansions(ONE_MORE, max_size=16), 16)
        self.assertEqual(expansions(ONE_MORE, max_size=15), all_expansions(ONE_MORE, 15))
        self.check_too_large(lambda: expansions(reference.right_comb(7), max_size=30), 30)
        self.check_too_large(lambda: expansions(reference.right_comb(7)), 24)

    def test_limits(self):
        self.assertEqual(expansions((), max_size=1), [()])
        self.assertEqual(expansions(PAIR, max_size=1), [])
        self.assertEqual(expansions(SQUARE, max_size=30), all_expansions(SQUARE, 30))
        for limit in (0, 31, -1, 32, 100, 10**29, -(10**29)):
            for term in ((), THREE, reference.right_comb(7)):
                with self.assertRaises(InvalidSize):
                    expansions(term, max_size=limit)
                with self.assertRaises(InvalidSize):
                    common_expansion(term, THREE, max_size=limit)

    def test_limit_is_passed_by_keyword(self):
        with self.assertRaises(TypeError):
            expansions(THREE, 4)
        with self.assertRaises(TypeError):
            common_expansion(THREE, THREE, 4)

    def test_wrong_terms_come_first(self):
        for name, wrong in reference.WRONG_TERMS.items():
            for limit in (1, 24, 30, 0, 31):
                with self.subTest(name), self.assertRaises(InvalidTerm):
                    expansions(wrong, max_size=limit)

    def test_changing_the_list_has_no_effect(self):
        result = expansions(THREE, max_size=4)
        self.assertIs(type(result), list)
        result.append(())
        self.assertEqual(expansions(THREE, max_size=4), [THREE, SQUARE])

    def test_steps_lead_to_expansions_and_on_to_the_full_one(self):
        checked = 0
        for term in reference.allowed_terms(6):
            full = reference.term_of(reference.full_text(term))
            size = reference.size(full)
            found = all_expansions(term, size) if size <= 30 else None
            if found is None:
                continue
            self.assertIn(full, expansions(term, max_size=size))
            for path in reference.all_paths(term):
                after = reference.stepped(term, path, True)
                if after is not None and reference.allowed(after):
                    self.assertIn(after, expansions(term, max_size=size))
                    self.assertIn(full, expansions(after, max_size=size))
                    checked += 1
        self.assertGreater(checked, 50)


class CommonExpansionTests(unittest.TestCase):
    def check_pair(self, one, other, limit):
        """Whether there is a common expansion, after a comparison with the lists of both terms."""
        among = expansions(other, max_size=limit)
        goals = [part for part in expansions(one, max_size=limit) if part in among]
        found = common_expansion(one, other, max_size=limit)
        if not goals:
            self.assertIsNone(found)
            return False
        self.assertIs(type(found), tuple)
        self.assertEqual(len(found), 3)
        self.assertEqual(found[0], goals[0])
        for term, paths in zip((one, other), found[1:]):
            self.assertIs(type(paths), list)
            self.assertEqual(apply_steps(term, [(path, True) for path in paths]), goals[0])
            for path in paths:
                term = reference.stepped(term, path, True)
            self.assertEqual(term, goals[0])
        return True

    def test_all_pairs_of_small_terms(self):
        terms = [term for many in range(1, 6) for term in reference.terms_of_size(many)]
        common = [self.check_pair(one, other, 10) for one in terms for other in terms if one != other]
        self.assertGreater(common.count(True), 10)
        self.assertGreater(common.count(False), 10)

    def test_terms_and_their_expansions(self):
        longest = 0
        for term in reference.terms_of_size(5):
            others = [part for part in expansions(term, max_size=10) if reference.allowed(part)]
            for one in others:
                for other in others[::4]:
                    for limit in (10, 12):
                        self.check_pair(one, other, limit)
                self.assertEqual(common_expansion(one, one, max_size=12), (one, [], []))
                longest = max(longest, len(common_expansion(term, one, max_size=12)[1]))
        self.assertGreater(longest, 3)

    def test_fixed_pairs(self):
        self.assertEqual(common_expansion((), ()), ((), [], []))
        self.assertEqual(common_expansion(THREE, SQUARE), (SQUARE, [""], []))
        self.assertEqual(common_expansion(SQUARE, THREE), (SQUARE, [], [""]))
        self.assertIsNone(common_expansion((), PAIR))
        self.assertIsNone(common_expansion(THREE, (PAIR, ())))
        # Two different steps from (x(x(xx))), which have to meet again.
        one, other = ((), SQUARE), (PAIR, THREE)
        self.assertTrue(self.check_pair(one, other, 14))
        found = common_expansion(one, other, max_size=14)
        self.assertGreater(len(found[1]), 0)
        self.assertGreater(len(found[2]), 0)

    def test_low_limits(self):
        self.assertEqual(common_expansion(THREE, SQUARE, max_size=4), (SQUARE, [""], []))
        for limit in (1, 2, 3):
            self.assertIsNone(common_expansion(THREE, SQUARE, max_size=limit))
            self.assertIsNone(common_expansion(SQUARE, SQUARE, max_size=limit))
        self.assertEqual(common_expansion((), (), max_size=1), ((), [], []))

    def test_changing_the_lists_has_no_effect(self):
        for change in (1, 2):
            found = common_expansion(SQUARE, THREE)
            found[change].append("0")
            self.assertEqual(common_expansion(SQUARE, THREE), (SQUARE, [], [""]))
        same = common_expansion((), ())
        same[1].append("0")
        self.assertEqual(same[2], [])

    def test_errors_of_the_first_term_come_first(self):
        large = reference.right_comb(7)
        for wrong in reference.WRONG_TERMS.values():
            for other in ((), THREE, large, wrong):
                for limit in (0, 24, 31):
                    with self.assertRaises(InvalidTerm):
                        common_expansion(wrong, other, max_size=limit)
            for limit in (0, 31):
                with self.assertRaises(InvalidSize):
                    common_expansion((), wrong, max_size=limit)
            with self.assertRaises(InvalidTerm):
                common_expansion((), wrong)
            with self.assertRaises(TooLarge) as caught:
                common_expansion(large, wrong, max_size=25)
            self.assertEqual(caught.exception.size, 25)

    def test_too_many_expansions(self):
        large = reference.right_comb(7)
        for one, other in ((large, ()), ((), large), (large, large), (THREE, ONE_MORE)):
            with self.assertRaises(TooLarge) as caught:
                common_expansion(one, other)
            self.assertEqual(caught.exception.size, 24)
        self.assertEqual(common_expansion(FIVE_HUNDRED, FIVE_HUNDRED), (FIVE_HUNDRED, [], []))
        self.assertIsNone(common_expansion(large, (), max_size=6))


if __name__ == "__main__":
    unittest.main()
