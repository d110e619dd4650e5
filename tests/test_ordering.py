"""The order of terms: the promises [14], [15] and [16] and the interface of uponboth/ordering.py."""

import functools
import itertools
import random
import unittest

from tests import order_reference, reference, word_reference
from tests.order_reference import OPPOSITE
from uponboth.errors import InvalidTerm
from uponboth.ordering import certificate, check_certificate, compare, least_term, sort_terms
from uponboth.reduction import equivalent, leading_letter
from uponboth.tables import Table
from uponboth.terms import left_spine
from uponboth.words import act_on, apply_moves, inverse, word_of

PAIR = ((), ())
THREE = ((), PAIR)
SMALL = reference.allowed_terms(5)
TERMS = reference.mixed_terms()
LARGE = [term for term in TERMS if reference.allowed(term) and reference.size(term) >= 9]


def allowed_mixed():
    return [term for term in TERMS if reference.allowed(term)]


def some_pairs(seed, many):
    choice = random.Random(seed)
    terms = allowed_mixed()
    return [(choice.choice(terms), choice.choice(terms)) for pair in range(many)]


def equal_pairs(seed, many):
    choice = random.Random(seed)
    terms = allowed_mixed()
    starts = [choice.choice(terms) for pair in range(many)]
    return [(start, order_reference.equal_walk(choice, start, choice.randint(1, 6))) for start in starts]


def applied_terms(seed, many):
    """A term, and one that is built by applying it to terms, with steps in between."""
    choice = random.Random(seed)
    found = []
    while len(found) < many:
        start = built = choice.choice(SMALL)
        for time in range(choice.randint(1, 4)):
            after = (built, choice.choice(SMALL[:9]))
            if reference.allowed(after):
                built = order_reference.equal_walk(choice, after, choice.randint(0, 4))
        if built != start:
            found.append((start, built))
    return found


class CompareTests(unittest.TestCase):
    def test_fixed_pairs(self):
        for one, other, result in (
            ((), (), "equal"),
            ((), PAIR, "less"),
            (PAIR, (), "greater"),
            (THREE, (PAIR, PAIR), "equal"),
            (THREE, (PAIR, ()), "greater"),
            ((PAIR, ()), THREE, "less"),
            (PAIR, THREE, "less"),
            (((), THREE), (PAIR, THREE), "equal"),
            (((), THREE), ((PAIR, ()), ()), "greater"),
        ):
            with self.subTest(one=one, other=other):
                self.assertEqual(compare(one, other), order_reference.result_by_images(one, other))
                self.assertEqual(compare(one, other), result)

    def test_all_pairs_of_small_terms(self):
        for one, other in itertools.product(SMALL, repeat=2):
            result = compare(one, other)
            self.assertEqual(result, order_reference.result_by_images(one, other))
            self.assertEqual(result, order_reference.result_of(one, other))

    def test_larger_terms(self):
        for one, other in some_pairs(1, 250):
            self.assertEqual(compare(one, other), order_reference.result_of(one, other))

    def test_a_term_is_less_than_what_it_is_applied_to(self):
        for start, built in applied_terms(2, 400):
            self.assertEqual(compare(start, built), "less")
            self.assertEqual(compare(built, start), "greater")

    def test_a_term_equals_itself_and_what_steps_make_of_it(self):
        for term in allowed_mixed()[::3]:
            self.assertEqual(compare(term, term), "equal")
        different = 0
        for term, other in equal_pairs(3, 300):
            self.assertEqual(compare(term, other), "equal")
            self.assertEqual(compare(other, term), "equal")
            different += term != other
        self.assertGreater(different, 100)

    def test_equal_terms_compare_alike(self):
        choice = random.Random(4)
        terms = allowed_mixed()
        for term, other in equal_pairs(5, 150):
            for third in (choice.choice(terms), choice.choice(SMALL)):
                self.assertEqual(compare(term, third), compare(other, third))
                self.assertEqual(compare(third, term), compare(third, other))

    def test_equal_terms_stay_equal_as_operands(self):
        compared = 0
        for term, other in itertools.combinations(reference.allowed_terms(7), 2):
            if reference.allowed((other, THREE)) and compare(term, other) == "equal":
                for third in ((), PAIR, THREE):
                    self.assertEqual(compare((term, third), (other, third)), "equal")
                    self.assertEqual(compare((third, term), (third, other)), "equal")
                compared += 1
        self.assertGreater(compared, 30)

    def test_opposite_results_in_reverse(self):
        for one, other in some_pairs(6, 400) + applied_terms(7, 50):
            self.assertEqual(compare(other, one), OPPOSITE[compare(one, other)])

    def test_transitivity(self):
        choice = random.Random(8)
        terms = allowed_mixed()
        for triple in range(150):
            chosen = [choice.choice(terms) for term in range(3)]
            low, middle, high = sorted(chosen, key=functools.cmp_to_key(signed))
            self.assertIn(compare(low, middle), ("less", "equal"))
            self.assertIn(compare(middle, high), ("less", "equal"))
            if compare(low, middle) == "less" or compare(middle, high) == "less":
                self.assertEqual(compare(low, high), "less")
            else:
                self.assertEqual(compare(low, high), "equal")

    def test_applying_one_term_to_two_keeps_their_order(self):
        choice = random.Random(9)
        for one, other in itertools.product(SMALL, repeat=2):
            acting = choice.choice(SMALL)
            self.assertEqual(compare((acting, one), (acting, other)), compare(one, other))

    def test_a_pair_is_greater_than_its_left_operand(self):
        for term in allowed_mixed():
            if term != ():
                self.assertEqual(compare(term[0], term), "less")
                self.assertEqual(compare(term, term[0]), "greater")

    def test_left_spines_ascend(self):
        for term in LARGE[::4]:
            spine = left_spine(term)
            for at, above in enumerate(spine):
                for below in spine[at + 1 :]:
                    self.assertEqual(compare(below, above), "less")

    def test_combs_ascend(self):
        for comb in (reference.left_comb, reference.right_comb):
            for few, many in itertools.combinations(range(1, 8), 2):
                self.assertEqual(compare(comb(few), comb(many)), "less")
                self.assertEqual(compare(comb(many), comb(few)), "greater")

    def test_the_generator_is_least(self):
        for term in allowed_mixed()[::2]:
            self.assertEqual(compare((), term), "less" if term != () else "equal")

    def test_agrees_with_words(self):
        letters = {"equal": 0, "less": 1, "greater": -1}
        for one, other in some_pairs(10, 200) + equal_pairs(11, 60):
            result = compare(one, other)
            self.assertEqual(equivalent(word_of(one), word_of(other)), result == "equal")
            self.assertEqual(leading_letter(inverse(word_of(one)) + word_of(other)), letters[result])

    def test_wrong_terms(self):
        for name, wrong in reference.WRONG_TERMS.items():
            for one, other in ((wrong, ()), ((), wrong), (wrong, wrong), (PAIR, wrong)):
                with self.subTest(name), self.assertRaises(InvalidTerm):
                    compare(one, other)
            self.assertEqual(compare((), PAIR), "less")


def signed(one, other):
    return {"less": -1, "equal": 0, "greater": 1}[compare(one, other)]


def changed_certificates(choice, claimed):
    """Tuples that differ from a certificate in one place or more, some of them certificates too."""
    result, moves, last = claimed
    at = choice.randint(0, len(moves))
    some = choice.randint(1, 6) * choice.choice((1, -1))
    end = choice.randint(0, len(last))
    found = [
        (other, moves, last) for other in ("equal", "less", "greater", "", "Less", "less ", "unknown") if other != result
    ]
    found += [
        (result, [], last),
        (result, moves[1:], last),
        (result, moves[:-1], last),
        (result, moves[:at] + moves[at + 1 :], last),
        (result, moves + moves, last),
        (result, moves + [("none", 0)], last),
        (result, [("insert", 0)] + moves, last),
        (result, moves[:at] + [("cancel",)] + moves[at:], last),
        (result, moves[:at] + [("insert", 0, 41)] + moves[at:], last),
        (result, moves[:at] + [("insert", 0, some), ("cancel", 0)] + moves[at:], last),
        (result, moves + [("insert", end, some)], last[:end] + (some, -some) + last[end:]),
        (result, moves + [("insert", end, some)], last[:end] + (-some, some) + last[end:]),
        (result, moves + [("insert", end, 1), ("cancel", end)], last),
        (result, moves, last + (some,)),
        (result, moves, last[:-1]),
        (result, moves, (0,) + last),
        (result, moves, last + (41,)),
        (result, moves, ()),
        (result, moves, (1,)),
        (result, moves, (-1,)),
    ]
    if moves:
        at = choice.randrange(len(moves))
        for other in (("swap", at), ("braid", 0), ("cancel", -1), ("cancel", 10**20), (moves[at][0], moves[at][1] + 1)):
            found.append((result, moves[:at] + [other] + moves[at + 1 :], last))
    return found


class CertificateTests(unittest.TestCase):
    def check_result(self, one, other):
        claimed = certificate(one, other)
        self.assertIs(type(claimed), tuple)
        result, moves, last = claimed
        self.assertEqual(result, compare(one, other))
        self.assertIs(type(moves), list)
        self.assertIs(type(last), tuple)
        self.assertTrue(all(type(move) is tuple for move in moves))
        self.assertEqual(apply_moves(order_reference.joint(one, other), moves), last)
        self.assertTrue(order_reference.is_certificate(one, other, claimed))
        self.assertIs(check_certificate(one, other, claimed), True)
        self.assertIs(check_certificate(one, other, (result, tuple(moves), last)), True)
        self.assertEqual(certificate(one, other), claimed)

    def test_small_terms(self):
        for one, other in itertools.product(SMALL, repeat=2):
            self.check_result(one, other)

    def test_larger_terms(self):
        for one, other in some_pairs(12, 120) + equal_pairs(13, 80):
            self.check_result(one, other)

    def test_simple_certificates(self):
        self.assertIs(check_certificate((), (), ("equal", [], ())), True)
        self.assertIs(check_certificate((), (), ("less", [], ())), False)
        self.assertIs(check_certificate((), PAIR, ("less", [], (1,))), True)
        self.assertIs(check_certificate((), PAIR, ("less", (), (1,))), True)
        self.assertIs(check_certificate((), PAIR, ("greater", [], (1,))), False)
        self.assertIs(check_certificate((), PAIR, ("equal", [], (1,))), False)
        self.assertIs(check_certificate(PAIR, (), ("greater", [], (-1,))), True)
        self.assertIs(check_certificate(PAIR, (), ("less", [], (-1,))), False)

    def test_moves_of_another_origin(self):
        # A word of two opposite letters shows nothing, although it is equivalent to the empty one.
        self.assertIs(check_certificate((), (), ("equal", [("insert", 0, 2)], (2, -2))), False)
        self.assertIs(check_certificate((), (), ("less", [("insert", 0, 1)], (1, -1))), False)
        self.assertIs(check_certificate((), PAIR, ("less", [("insert", 1, 40)], (1, 40, -40))), True)
        self.assertIs(check_certificate((), PAIR, ("less", [("insert", 0, -1)], (-1, 1, 1))), False)
        self.assertIs(check_certificate((), PAIR, ("greater", [("insert", 0, -1)], (-1, 1, 1))), False)

    def test_words_that_show_nothing(self):
        # Without 1 and -1 a word that is not empty is no support for any result.
        word = order_reference.joint(THREE, (PAIR, PAIR))
        moves = certificate(THREE, (PAIR, PAIR))[1] + [("insert", 0, 2)]
        self.assertEqual(apply_moves(word, moves), (2, -2))
        for result in ("equal", "less", "greater"):
            self.assertIs(check_certificate(THREE, (PAIR, PAIR), (result, moves, (2, -2))), False)

    def test_changed_certificates(self):
        choice = random.Random(14)
        told = {True: 0, False: 0}
        pairs = list(itertools.product(SMALL[:9], repeat=2)) + some_pairs(15, 12) + equal_pairs(16, 12)
        for one, other in pairs:
            for changed in changed_certificates(choice, certificate(one, other)):
                kept = (changed[0], list(changed[1]), changed[2])
                valid = check_certificate(one, other, changed)
                self.assertIs(valid, order_reference.is_certificate(one, other, changed))
                self.assertEqual(changed, kept)
                told[valid] += 1
        self.assertGreater(min(told.values()), 100)

    def test_certificates_of_other_terms(self):
        for one, other, third in itertools.product(SMALL[:9], repeat=3):
            claimed = certificate(one, other)
            for first, second in ((one, third), (third, other), (other, one)):
                valid = order_reference.is_certificate(first, second, claimed)
                self.assertIs(check_certificate(first, second, claimed), valid)

    def test_long_certificates(self):
        result, moves, last = certificate((), PAIR)
        longer = moves + [("insert", 1, 5), ("cancel", 1)] * 60000
        self.assertIs(check_certificate((), PAIR, (result, longer, last)), True)
        self.assertIs(check_certificate((), PAIR, (result, longer + [("cancel", 0)], last)), False)
        grown = [("insert", 1, 3)] * 400
        self.assertIs(check_certificate((), PAIR, ("less", grown, (1,) + (3, -3) * 400)), True)
        self.assertIs(check_certificate((), PAIR, ("less", grown, (1,) + (3, -3) * 399)), False)

    def test_changing_the_list_has_no_effect(self):
        one, other = THREE, (PAIR, PAIR)
        before = certificate(one, other)
        moves = certificate(one, other)[1]
        moves.append(("cancel", 0))
        moves[0] = ("none", 0)
        self.assertEqual(certificate(one, other), before)
        self.assertIs(check_certificate(one, other, before), True)

    def test_wrong_terms(self):
        for name, wrong in reference.WRONG_TERMS.items():
            for one, other in ((wrong, ()), ((), wrong), (wrong, wrong)):
                with self.subTest(name):
                    with self.assertRaises(InvalidTerm):
                        certificate(one, other)
                    for claimed in (("equal", [], ()), ("none", [("none", 0)], (0,))):
                        with self.assertRaises(InvalidTerm):
                            check_certificate(one, other, claimed)
            self.assertEqual(certificate((), PAIR)[0], "less")


def listed_terms(seed, many):
    """Lists of up to nine terms, some of them equal or identical."""
    choice = random.Random(seed)
    terms = SMALL + LARGE[::20]
    lists = []
    for which in range(many):
        chosen = [choice.choice(terms) for term in range(which % 10)]
        for at in range(1, len(chosen)):
            if choice.random() < 0.4:
                walked = order_reference.equal_walk(choice, chosen[choice.randrange(at)], choice.randint(0, 3))
                chosen[at] = walked
        lists.append(chosen)
    return lists


class SortTests(unittest.TestCase):
    def check_groups(self, terms, groups):
        self.assertIs(type(groups), list)
        self.assertEqual(sorted(itertools.chain(*groups)), list(range(len(terms))))
        for group in groups:
            self.assertIs(type(group), list)
            self.assertEqual(group, sorted(group))
            for one, other in itertools.product(group, repeat=2):
                self.assertEqual(compare(terms[one], terms[other]), "equal")
        for low, high in itertools.combinations(groups, 2):
            for one, other in itertools.product(low, high):
                self.assertEqual(compare(terms[one], terms[other]), "less")

    def test_lists(self):
        for terms in listed_terms(17, 120):
            kept = list(terms)
            groups = sort_terms(terms)
            self.check_groups(terms, groups)
            self.assertEqual(terms, kept)
            self.assertEqual(sort_terms(tuple(terms)), groups)

    def test_empty_list(self):
        self.assertEqual(sort_terms([]), [])
        self.assertEqual(sort_terms(()), [])

    def test_fixed_lists(self):
        self.assertEqual(sort_terms([()]), [[0]])
        self.assertEqual(sort_terms([PAIR, PAIR, PAIR]), [[0, 1, 2]])
        self.assertEqual(sort_terms([(PAIR, PAIR), THREE, (), PAIR]), [[2], [3], [0, 1]])

    def test_another_order(self):
        choice = random.Random(18)
        for terms in listed_terms(19, 40):
            places = list(range(len(terms)))
            choice.shuffle(places)
            mixed = [terms[place] for place in places]
            again = [sorted(places[at] for at in group) for group in sort_terms(mixed)]
            self.assertEqual(again, sort_terms(terms))

    def test_one_more_term(self):
        choice = random.Random(20)
        for terms in listed_terms(21, 40):
            more = terms + [choice.choice(SMALL)]
            groups = [[at for at in group if at < len(terms)] for group in sort_terms(more)]
            self.assertEqual([group for group in groups if group], sort_terms(terms))

    def test_two_hundred_terms(self):
        terms = (SMALL + LARGE)[:200]
        self.assertEqual(len(terms), 200)
        groups = sort_terms(terms)
        self.assertEqual(sorted(itertools.chain(*groups)), list(range(200)))
        for low, high in zip(groups, groups[1:]):
            self.assertEqual(compare(terms[low[-1]], terms[high[0]]), "less")

    def test_changing_the_lists_has_no_effect(self):
        terms = [PAIR, (), PAIR]
        groups = sort_terms(terms)
        groups[0].append(9)
        groups.append([])
        self.assertEqual(sort_terms(terms), [[1], [0, 2]])

    def test_least_term(self):
        for terms in listed_terms(22, 120):
            kept = list(terms)
            least = least_term(terms)
            if terms:
                first = sort_terms(terms)[0][0]
                self.assertEqual(least, terms[first])
                # Equal terms need not be identical; the first one is meant.
                before = [compare(least, term) for term in terms[:first]]
                self.assertEqual(before, ["less"] * first)
            else:
                self.assertIsNone(least)
            self.assertEqual(terms, kept)
            self.assertEqual(least_term(tuple(terms)), least)

    def test_first_of_equal_least_terms(self):
        self.assertEqual(least_term([(PAIR, THREE), THREE, (PAIR, PAIR)]), THREE)
        self.assertEqual(least_term([(PAIR, PAIR), THREE]), (PAIR, PAIR))
        self.assertIsNone(least_term([]))
        self.assertIsNone(least_term(()))
        self.assertEqual(least_term([()]), ())

    def test_wrong_terms(self):
        for name, wrong in reference.WRONG_TERMS.items():
            for terms in ([wrong], [(), wrong], [wrong, ()], [(), PAIR, (), wrong], [wrong] * 3):
                with self.subTest(name):
                    with self.assertRaises(InvalidTerm):
                        sort_terms(terms)
                    with self.assertRaises(InvalidTerm):
                        least_term(terms)


class ActionOrderTests(unittest.TestCase):
    def test_equivalent_positive_words_give_equal_terms(self):
        choice = random.Random(23)
        tables = {size: Table(size) for size in (3, 5)}
        small = compared = 0
        for many in (2, 3, 4, 5):
            for word in itertools.product((1, 2, 3), repeat=many):
                for other in positive_neighbours(word):
                    terms = [choice.choice(SMALL[:4]) for term in range(4)]
                    for one, two in zip(act_on(terms, word), act_on(terms, other), strict=True):
                        for size in tables:
                            value = order_reference.table_value(size, one)
                            self.assertEqual(value, order_reference.table_value(size, two))
                        if reference.allowed(one) and reference.allowed(two):
                            self.assertEqual(compare(one, two), "equal")
                            for table in tables.values():
                                self.assertEqual(table.evaluate(one), table.evaluate(two))
                            small += one != two
                        compared += 1
        self.assertGreater(compared, 500)
        self.assertGreater(small, 50)


def positive_neighbours(word):
    """The words that one braid or swap move makes of a positive word."""
    moves = word_reference.moves_of(word)
    return [after for (name, at), after in moves.items() if name != "cancel"]


if __name__ == "__main__":
    unittest.main()
