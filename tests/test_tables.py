"""Tables: the promises [17] and [18] and the interface of uponboth/tables.py."""

import itertools
import random
import unittest

from tests import order_reference, reference
from uponboth import tables
from uponboth.errors import InvalidElement, InvalidSize, InvalidTerm
from uponboth.ordering import compare
from uponboth.rewriting import full_expansion
from uponboth.tables import Table, separating_table
from uponboth.terms import is_term

PAIR = ((), ())
THREE = ((), PAIR)
SIZES = range(10)
WRONG_SIZES = (-1, -2, -9, 10, 11, 100, 10**29, -(10**29))
TERMS = [term for term in reference.mixed_terms() if reference.allowed(term)]


def sampled(choice, last, many):
    """Some elements of a table with its first and last ones, or all of them."""
    if last <= many:
        return list(range(1, last + 1))
    return sorted({1, 2, last // 2, last // 2 + 1, last - 1, last} | set(choice.sample(range(1, last + 1), many)))


def wrong_elements(size):
    return (0, -1, -(2**size), 2**size + 1, 2**size + 2, 2 * 2**size + 1, 10**29, -(10**29))


class ConstructionTests(unittest.TestCase):
    def test_constant(self):
        self.assertEqual(tables.MAX_TABLE, 9)

    def test_sizes(self):
        for size in SIZES:
            table = Table(size)
            self.assertEqual(table.size, size)
            self.assertEqual(len(table), 2**size)
            self.assertEqual(repr(table), f"Table({size})")

    def test_wrong_sizes(self):
        for wrong in WRONG_SIZES:
            with self.assertRaises(InvalidSize):
                Table(wrong)

    def test_equality(self):
        for one, other in itertools.product(SIZES, repeat=2):
            self.assertIs(Table(one) == Table(other), one == other)
            self.assertIs(Table(one) != Table(other), one != other)
        for other in (3, "Table(3)", None, (), [], {}, {"size": 3}, 8, object(), (3,)):
            self.assertIs(Table(3) == other, False)
            self.assertIs(other == Table(3), False)
            self.assertIs(Table(3) != other, True)


class ApplyTests(unittest.TestCase):
    def test_small_tables(self):
        self.assertEqual(rows_of(Table(0)), [[1]])
        self.assertEqual(rows_of(Table(1)), [[2, 2], [1, 2]])
        self.assertEqual(rows_of(Table(2)), [[2, 4, 2, 4], [3, 4, 3, 4], [4, 4, 4, 4], [1, 2, 3, 4]])
        self.assertEqual(
            rows_of(Table(3)),
            [
                [2, 4, 6, 8, 2, 4, 6, 8],
                [3, 4, 7, 8, 3, 4, 7, 8],
                [4, 8, 4, 8, 4, 8, 4, 8],
                [5, 6, 7, 8, 5, 6, 7, 8],
                [6, 8, 6, 8, 6, 8, 6, 8],
                [7, 8, 7, 8, 7, 8, 7, 8],
                [8, 8, 8, 8, 8, 8, 8, 8],
                [1, 2, 3, 4, 5, 6, 7, 8],
            ],
        )

    def test_whole_tables(self):
        for size in range(8):
            table = Table(size)
            for (one, other), value in order_reference.table(size).items():
                self.assertEqual(table.apply(one, other), value)

    def test_large_tables(self):
        choice = random.Random(1)
        for size in (8, 9):
            table = Table(size)
            for one, other in choice.sample(sorted(order_reference.table(size)), 20000):
                self.assertEqual(table.apply(one, other), order_reference.table(size)[one, other])

    def test_recursion(self):
        choice = random.Random(2)
        for size in SIZES:
            table = Table(size)
            last = 2**size
            for one in range(1, last + 1):
                self.assertEqual(table.apply(one, 1), one % last + 1)
            for one, other in itertools.product(sampled(choice, last, 40), repeat=2):
                if other < last:
                    value = table.apply(table.apply(one, other), table.apply(one, 1))
                    self.assertEqual(table.apply(one, other + 1), value)

    def test_rule(self):
        choice = random.Random(3)
        for size in SIZES:
            table = Table(size)
            for a, b, c in itertools.product(sampled(choice, 2**size, 16), repeat=3):
                right = table.apply(table.apply(a, b), table.apply(a, c))
                self.assertEqual(table.apply(a, table.apply(b, c)), right)

    def test_wrong_elements(self):
        for size in SIZES:
            table = Table(size)
            for wrong in wrong_elements(size):
                for one, other in ((wrong, 1), (1, wrong), (wrong, wrong), (2**size, wrong)):
                    with self.assertRaises(InvalidElement):
                        table.apply(one, other)
                    with self.assertRaises(InvalidElement):
                        table.compose(one, other)
                for method in (table.period, table.row_values, table.project):
                    with self.assertRaises(InvalidElement):
                        method(wrong)
            self.assertEqual(table.apply(2**size, 2**size), 2**size)


def rows_of(table):
    return [[table.apply(one, other) for other in range(1, len(table) + 1)] for one in range(1, len(table) + 1)]


class PeriodTests(unittest.TestCase):
    def test_periods_and_rows(self):
        for size in SIZES:
            table = Table(size)
            last = 2**size
            known = order_reference.table(size)
            for one in range(1, last + 1):
                row = [known[one, other] for other in range(1, last + 1)]
                period = table.period(one)
                self.assertEqual(period, row.index(last) + 1)
                values = table.row_values(one)
                self.assertIs(type(values), list)
                self.assertEqual(values, row[:period])
                self.assertEqual(values, sorted(set(values)))
                self.assertEqual(values * (last // period), row)

    def test_first_and_last_elements(self):
        for size in SIZES:
            self.assertEqual(Table(size).period(2**size), 2**size)
            self.assertEqual(Table(size).row_values(2**size), list(range(1, 2**size + 1)))
        self.assertEqual([Table(size).period(1) for size in SIZES], [1, 1, 2, 4, 4, 8, 8, 8, 8, 16])

    def test_changing_the_list_has_no_effect(self):
        table = Table(4)
        for element in range(1, 17):
            before = table.row_values(element)
            changed = table.row_values(element)
            changed[0] = 99
            changed.append(7)
            self.assertEqual(table.row_values(element), before)
            self.assertEqual(table.period(element), len(before))
            self.assertEqual(table.apply(element, 1), before[0])
        self.assertEqual(rows_of(table), rows_of(Table(4)))


class ComposeTests(unittest.TestCase):
    def test_elements(self):
        choice = random.Random(4)
        for size in SIZES:
            table = Table(size)
            chosen = sampled(choice, 2**size, 12)
            for one, other in itertools.product(chosen, repeat=2):
                composed = table.compose(one, other)
                for third in sampled(choice, 2**size, 20):
                    expected = table.apply(one, table.apply(other, third))
                    self.assertEqual(table.apply(composed, third), expected)

    def test_only_one_element_is_right(self):
        for size in range(5):
            table = Table(size)
            places = range(1, 2**size + 1)
            for one, other in itertools.product(places, repeat=2):
                goal = [table.apply(one, table.apply(other, third)) for third in places]
                (found,) = [c for c in places if [table.apply(c, third) for third in places] == goal]
                self.assertEqual(table.compose(one, other), found)


class ProjectTests(unittest.TestCase):
    def test_all_elements(self):
        for size in SIZES:
            table = Table(size)
            for element in range(1, 2**size + 1):
                self.assertEqual(table.project(element), 1)
                self.assertEqual(table.project(element, size=size), element)
                for smaller in range(size + 1):
                    result = table.project(element, size=smaller)
                    self.assertTrue(1 <= result <= 2**smaller)
                    self.assertEqual((element - result) % 2**smaller, 0)

    def test_operation_is_preserved(self):
        choice = random.Random(5)
        for size in SIZES:
            table = Table(size)
            for smaller in range(size + 1):
                low = Table(smaller)
                for one, other in itertools.product(sampled(choice, 2**size, 10), repeat=2):
                    parts = [table.project(element, size=smaller) for element in (one, other)]
                    result = table.project(table.apply(one, other), size=smaller)
                    self.assertEqual(result, low.apply(*parts))

    def test_wrong_sizes(self):
        for size in SIZES:
            for wrong in (-1, -2, size + 1, size + 2, 10, 10**29, -(10**29)):
                with self.assertRaises(InvalidSize):
                    Table(size).project(1, size=wrong)

    def test_wrong_elements_come_first(self):
        for size in SIZES:
            for wrong in wrong_elements(size):
                for smaller in (0, size, -1, size + 1):
                    with self.assertRaises(InvalidElement):
                        Table(size).project(wrong, size=smaller)

    def test_size_is_passed_by_keyword(self):
        with self.assertRaises(TypeError):
            Table(2).project(1, 1)


class EvaluateTests(unittest.TestCase):
    def test_terms(self):
        for size in SIZES:
            table = Table(size)
            for term in TERMS[size::7]:
                self.assertEqual(table.evaluate(term), order_reference.table_value(size, term))
            self.assertEqual(table.evaluate(()), 1)

    def test_values_of_both_operands(self):
        for size in SIZES:
            table = Table(size)
            for term in TERMS[size::7]:
                if term != ():
                    value = table.apply(table.evaluate(term[0]), table.evaluate(term[1]))
                    self.assertEqual(table.evaluate(term), value)

    def test_steps_do_not_change_values(self):
        choice = random.Random(6)
        tables = [Table(size) for size in SIZES]
        different = 0
        for term in TERMS[::5]:
            other = order_reference.equal_walk(choice, term, 3)
            different += other != term
            for table in tables:
                self.assertEqual(table.evaluate(term), table.evaluate(other))
        self.assertGreater(different, 50)

    def test_full_expansion_does_not_change_values(self):
        compared = 0
        for term in reference.allowed_terms(6):
            full = reference.term_of(reference.full_text(term))
            for size in SIZES:
                value = Table(size).evaluate(term)
                self.assertEqual(order_reference.table_value(size, full), value)
                if is_term(full):
                    self.assertEqual(full_expansion(term), full)
                    self.assertEqual(Table(size).evaluate(full), value)
                    compared += 1
        self.assertGreater(compared, 100)

    def test_equal_terms_have_equal_values(self):
        tables = [Table(size) for size in (2, 4, 6, 9)]
        equal = 0
        for one, other in itertools.combinations(reference.allowed_terms(6), 2):
            if compare(one, other) == "equal":
                equal += 1
                for table in tables:
                    self.assertEqual(table.evaluate(one), table.evaluate(other))
        self.assertGreater(equal, 20)

    def test_wrong_terms(self):
        for name, wrong in reference.WRONG_TERMS.items():
            for size in (0, 3, 9):
                table = Table(size)
                with self.subTest(name), self.assertRaises(InvalidTerm):
                    table.evaluate(wrong)
                self.assertEqual(table.evaluate(()), 1)


class SeparatingTests(unittest.TestCase):
    def test_terms(self):
        choice = random.Random(7)
        for time in range(300):
            one, other = choice.choice(TERMS), choice.choice(TERMS)
            result = separating_table(one, other)
            self.assertEqual(result, order_reference.separation(one, other, 9))
            self.assertIs(type(result), tuple if result is not None else type(None))

    def test_small_terms(self):
        for one, other in itertools.product(reference.allowed_terms(4), repeat=2):
            for limit in SIZES:
                result = separating_table(one, other, limit=limit)
                self.assertEqual(result, order_reference.separation(one, other, limit))

    def test_late_separations(self):
        one = ()
        found = {}
        for term in TERMS:
            result = order_reference.separation(one, term, 9)
            if result is not None:
                found.setdefault(result[0], term)
        self.assertGreaterEqual(max(found), 3)
        for size, term in found.items():
            for limit in range(size):
                self.assertIsNone(separating_table(one, term, limit=limit))
            for limit in range(size, 10):
                result = separating_table(one, term, limit=limit)
                self.assertEqual(result, order_reference.separation(one, term, 9))
                self.assertEqual(result[0], size)

    def test_swapped_arguments(self):
        choice = random.Random(8)
        for time in range(100):
            one, other = choice.choice(TERMS), choice.choice(TERMS)
            result = separating_table(one, other)
            swapped = separating_table(other, one)
            self.assertEqual(swapped, None if result is None else (result[0], result[2], result[1]))

    def test_default_limit(self):
        for term in TERMS[::40]:
            self.assertEqual(separating_table(term, PAIR), separating_table(term, PAIR, limit=9))

    def test_equal_terms(self):
        choice = random.Random(9)
        for term in TERMS[::20]:
            self.assertIsNone(separating_table(term, term))
            self.assertIsNone(separating_table(term, order_reference.equal_walk(choice, term, 4)))
            self.assertIsNone(separating_table(term, (), limit=0))

    def test_wrong_limits(self):
        for wrong in WRONG_SIZES:
            for one, other in (((), ()), ((), PAIR), (THREE, PAIR)):
                with self.assertRaises(InvalidSize):
                    separating_table(one, other, limit=wrong)

    def test_wrong_terms_come_first(self):
        for name, wrong in reference.WRONG_TERMS.items():
            for limit in (0, 9, -1, 10):
                for one, other in ((wrong, ()), ((), wrong), (wrong, wrong)):
                    with self.subTest(name), self.assertRaises(InvalidTerm):
                        separating_table(one, other, limit=limit)
        self.assertEqual(separating_table((), PAIR), (1, 1, 2))

    def test_limit_is_passed_by_keyword(self):
        with self.assertRaises(TypeError):
            separating_table((), PAIR, 3)


if __name__ == "__main__":
    unittest.main()
