"""Models: the promises [19] and [20] and the interface of uponboth/models.py."""

import itertools
import random
import unittest

from tests import order_reference, reference
from tests.order_reference import WRONG_MODELS
from uponboth.errors import InvalidIndex, InvalidModel, InvalidSize, InvalidTerm
from uponboth.models import (
    affine_model, first_violation, generated_values, homomorphism, product_model, table_model, value_of,
)
from uponboth.tables import Table

PAIR = ((), ())
THREE = ((), PAIR)
TERMS = [term for term in reference.mixed_terms() if reference.allowed(term)]
WRONG_NUMBERS = (10**29, -(10**29), -1, -12)


def random_model(choice, many):
    return tuple(tuple(choice.randrange(many) for entry in range(many)) for row in range(many))


def lawful_models():
    """Models in which the rule holds."""
    models = [affine_model(many, factor=factor) for many in range(1, 13) for factor in (-1, 0, 1, 2, 3, 7)]
    models += [table_model(size) for size in range(4)]
    for many in range(1, 13):
        models.append(tuple(tuple(range(many)) for row in range(many)))
        models.append(tuple((row,) * many for row in range(many)))
        # Every element is applied by the same shift.
        models.append(tuple(tuple((b + 1) % many for b in range(many)) for row in range(many)))
    models.append(product_model(table_model(1), affine_model(5)))
    models.append(product_model(affine_model(3), table_model(2)))
    return models


def other_models():
    choice = random.Random(1)
    return [random_model(choice, many) for many in range(1, 13) for time in range(4)]


def nearly_lawful_models():
    """Models in which one entry breaks the rule, mostly."""
    choice = random.Random(2)
    models = []
    for model in lawful_models():
        many = len(model)
        rows = [list(row) for row in model]
        rows[choice.randrange(many)][choice.randrange(many)] = choice.randrange(many)
        models.append(tuple(tuple(row) for row in rows))
    return models


LAWFUL = lawful_models()
OTHERS = other_models() + nearly_lawful_models()


class RuleTests(unittest.TestCase):
    def test_lawful_models(self):
        for model in LAWFUL:
            self.assertIsNone(first_violation(model))

    def test_other_models(self):
        violated = 0
        for model in OTHERS:
            violations = order_reference.violations(model)
            result = first_violation(model)
            self.assertEqual(result, violations[0] if violations else None)
            if result is not None:
                self.assertIs(type(result), tuple)
                violated += 1
        self.assertGreater(violated, 60)

    def test_all_models_of_two_rows(self):
        for a, b, c, d in itertools.product((0, 1), repeat=4):
            model = ((a, b), (c, d))
            violations = order_reference.violations(model)
            self.assertEqual(first_violation(model), violations[0] if violations else None)

    def test_late_violations(self):
        # All rows but the last leave every element as it is.
        for many in range(3, 13):
            last = many - 1
            model = (tuple(range(many)),) * last + (tuple(range(last - 1)) + (last - 2, last - 1),)
            self.assertEqual(order_reference.violations(model)[0], (last, last, last))
            self.assertEqual(first_violation(model), (last, last, last))

    def test_wrong_models(self):
        for name, wrong in WRONG_MODELS.items():
            with self.subTest(name), self.assertRaises(InvalidModel):
                first_violation(wrong)


class ValueTests(unittest.TestCase):
    def test_values(self):
        choice = random.Random(3)
        for model in LAWFUL + OTHERS:
            for start in range(len(model)):
                for term in choice.sample(TERMS, 4):
                    expected = order_reference.model_value(model, start, term)
                    self.assertEqual(value_of(model, start, term), expected)
                self.assertEqual(value_of(model, start, ()), start)

    def test_equal_terms_have_equal_values(self):
        choice = random.Random(4)
        different = 0
        for model in LAWFUL:
            for time in range(4):
                term = choice.choice(TERMS)
                other = order_reference.equal_walk(choice, term, 3)
                different += term != other
                for start in range(len(model)):
                    self.assertEqual(value_of(model, start, term), value_of(model, start, other))
        self.assertGreater(different, 100)

    def test_without_the_rule_they_may_differ(self):
        model = ((0, 0), (1, 0))
        self.assertNotEqual(value_of(model, 1, THREE), value_of(model, 1, (PAIR, PAIR)))

    def test_generated_values(self):
        for model in LAWFUL + OTHERS:
            for start in range(len(model)):
                pairs = order_reference.values_of_terms(model, start, model, start)
                result = generated_values(model, start)
                self.assertEqual(result, sorted({value for value, again in pairs}))
                self.assertIs(type(result), list)

    def test_generated_values_are_values_of_terms(self):
        for model in [affine_model(5), table_model(3), *OTHERS[:12]]:
            for start in range(len(model)):
                values = {value_of(model, start, term) for term in reference.allowed_terms(7)}
                self.assertLessEqual(values, set(generated_values(model, start)))
                if len(model) < 5:
                    self.assertEqual(sorted(values), generated_values(model, start))

    def test_fixed_values(self):
        self.assertEqual(generated_values(((0,),), 0), [0])
        self.assertEqual(generated_values(table_model(3), 0), list(range(8)))
        self.assertEqual(generated_values(table_model(3), 7), [7])
        self.assertEqual(generated_values(affine_model(12), 5), [5])

    def test_changing_the_list_has_no_effect(self):
        model = table_model(2)
        result = generated_values(model, 0)
        result.append(9)
        self.assertEqual(generated_values(model, 0), [0, 1, 2, 3])

    def test_errors_in_order(self):
        for name, wrong in WRONG_MODELS.items():
            for start in (0, -1, 50):
                with self.subTest(name):
                    with self.assertRaises(InvalidModel):
                        generated_values(wrong, start)
                    for term in ((), ((),)):
                        with self.assertRaises(InvalidModel):
                            value_of(wrong, start, term)
        for many in range(1, 13):
            model = affine_model(many)
            for start in (*WRONG_NUMBERS, many, many + 1, -many):
                with self.assertRaises(InvalidIndex):
                    generated_values(model, start)
                for term in ((), ((),)):
                    with self.assertRaises(InvalidIndex):
                        value_of(model, start, term)
            for name, wrong in reference.WRONG_TERMS.items():
                with self.subTest(name), self.assertRaises(InvalidTerm):
                    value_of(model, many - 1, wrong)
            self.assertEqual(value_of(model, many - 1, ()), many - 1)


class MakingTests(unittest.TestCase):
    def test_affine_models(self):
        factors = (0, 1, 2, 3, -1, -2, 12, 13, -25, 10**29, -(10**29))
        for many, factor in itertools.product(range(1, 13), factors):
            model = affine_model(many, factor=factor)
            self.assertIs(type(model), tuple)
            self.assertEqual([len(row) for row in model], [many] * many)
            for a, b in itertools.product(range(many), repeat=2):
                self.assertIs(type(model[a]), tuple)
                self.assertTrue(0 <= model[a][b] < many)
                self.assertEqual((model[a][b] - (a + factor * (b - a))) % many, 0)
            self.assertIsNone(first_violation(model))

    def test_default_factor(self):
        for many in range(1, 13):
            self.assertEqual(affine_model(many), affine_model(many, factor=2))
        self.assertNotEqual(affine_model(3), affine_model(3, factor=1))

    def test_wrong_moduli(self):
        for wrong in (0, -1, 13, 14, 100, 10**29, -(10**29)):
            for factor in (2, 0, -1):
                with self.assertRaises(InvalidSize):
                    affine_model(wrong, factor=factor)

    def test_factor_is_passed_by_keyword(self):
        with self.assertRaises(TypeError):
            affine_model(3, 1)

    def test_products(self):
        choice = random.Random(5)
        for one_rows, other_rows in itertools.product(range(1, 13), repeat=2):
            one, other = random_model(choice, one_rows), random_model(choice, other_rows)
            if one_rows * other_rows > 12:
                with self.assertRaises(InvalidSize):
                    product_model(one, other)
                continue
            model = product_model(one, other)
            self.assertEqual([len(row) for row in model], [one_rows * other_rows] * (one_rows * other_rows))
            self.assertIs(type(model), tuple)
            for a, c in itertools.product(range(one_rows), repeat=2):
                for b, d in itertools.product(range(other_rows), repeat=2):
                    result = model[a * other_rows + b][c * other_rows + d]
                    self.assertEqual(result, one[a][c] * other_rows + other[b][d])

    def test_products_of_lawful_models(self):
        for one, other in itertools.product(LAWFUL, repeat=2):
            if len(one) * len(other) <= 12 and len(one) > 1:
                self.assertIsNone(first_violation(product_model(one, other)))

    def test_product_errors_in_order(self):
        large = affine_model(12)
        for name, wrong in WRONG_MODELS.items():
            for one, other in ((wrong, large), (large, wrong), (wrong, wrong), (wrong, ((0,),)), (((0,),), wrong)):
                with self.subTest(name), self.assertRaises(InvalidModel):
                    product_model(one, other)
        for one, other in ((large, large), (large, affine_model(2)), (affine_model(7), affine_model(2))):
            with self.assertRaises(InvalidSize):
                product_model(one, other)

    def test_tables(self):
        for size in range(4):
            model = table_model(size)
            self.assertIs(type(model), tuple)
            for (one, other), value in order_reference.table(size).items():
                self.assertEqual(model[one - 1][other - 1], value - 1)
            self.assertEqual([len(row) for row in model], [2**size] * 2**size)
            table = Table(size)
            for term in TERMS[::30]:
                self.assertEqual(value_of(model, 0, term), table.evaluate(term) - 1)

    def test_wrong_table_sizes(self):
        for wrong in (-1, -2, 4, 5, 9, 10, 10**29, -(10**29)):
            with self.assertRaises(InvalidSize):
                table_model(wrong)


class HomomorphismTests(unittest.TestCase):
    def check_pair(self, one, start, other, goal):
        result = homomorphism(one, start, other, goal)
        self.assertEqual(result, order_reference.homomorphism(one, start, other, goal))
        self.assertIs(type(result), tuple)
        return result[0]

    def test_models(self):
        choice = random.Random(6)
        told = {"map": 0, "conflict": 0}
        models = LAWFUL + OTHERS
        for time in range(250):
            one, other = choice.choice(models), choice.choice(models)
            kind = self.check_pair(one, choice.randrange(len(one)), other, choice.randrange(len(other)))
            told[kind] += 1
        self.assertGreater(min(told.values()), 20)

    def test_small_models(self):
        choice = random.Random(7)
        for time in range(400):
            one, other = (random_model(choice, choice.randint(1, 4)) for which in range(2))
            self.check_pair(one, choice.randrange(len(one)), other, choice.randrange(len(other)))

    def test_values_of_terms(self):
        for one, other in ((table_model(3), table_model(2)), (table_model(2), affine_model(3)), (OTHERS[9], OTHERS[17])):
            result = homomorphism(one, 0, other, 0)
            for term in reference.allowed_terms(7):
                value, image = value_of(one, 0, term), value_of(other, 0, term)
                if result[0] == "map":
                    self.assertEqual(result[1][value], image)

    def test_equal_models(self):
        for model in LAWFUL[::3] + OTHERS[::3]:
            for start in range(len(model)):
                values = generated_values(model, start)
                self.assertEqual(homomorphism(model, start, model, start), ("map", {value: value for value in values}))

    def test_larger_tables(self):
        for low, high in itertools.combinations_with_replacement(range(4), 2):
            result = homomorphism(table_model(high), 0, table_model(low), 0)
            self.assertEqual(result, ("map", {value: value % 2**low for value in range(2**high)}))
            if low < high:
                self.assertEqual(homomorphism(table_model(low), 0, table_model(high), 0)[0], "conflict")

    def test_products(self):
        choice = random.Random(8)
        for time in range(60):
            one = random_model(choice, choice.randint(1, 4))
            other = random_model(choice, choice.randint(1, 3))
            start, goal = choice.randrange(len(one)), choice.randrange(len(other))
            both = start * len(other) + goal
            product = product_model(one, other)
            values = generated_values(product, both)
            first = homomorphism(product, both, one, start)
            self.assertEqual(first, ("map", {value: value // len(other) for value in values}))
            second = homomorphism(product, both, other, goal)
            self.assertEqual(second, ("map", {value: value % len(other) for value in values}))

    def test_composed_maps(self):
        for high, middle, low in ((3, 2, 1), (3, 1, 0), (2, 1, 0)):
            first = homomorphism(table_model(high), 0, table_model(middle), 0)[1]
            second = homomorphism(table_model(middle), 0, table_model(low), 0)[1]
            both = homomorphism(table_model(high), 0, table_model(low), 0)[1]
            self.assertEqual(both, {value: second[first[value]] for value in first})

    def test_least_conflicts(self):
        one, shift = ((0,),), ((1, 2, 0), (1, 2, 0), (1, 2, 0))
        self.assertEqual(homomorphism(one, 0, shift, 2), ("conflict", 0, 0, 1))
        self.assertEqual(homomorphism(shift, 2, one, 0), ("map", {0: 0, 1: 0, 2: 0}))

    def test_changing_the_dict_has_no_effect(self):
        model = table_model(2)
        result = homomorphism(model, 0, model, 0)
        result[1][0] = 9
        result[1][7] = 7
        self.assertEqual(homomorphism(model, 0, model, 0), ("map", {0: 0, 1: 1, 2: 2, 3: 3}))

    def test_errors_in_order(self):
        good, bad = ((0, 0), (1, 0)), ((0, 2), (1, 0))
        for start, other, goal in itertools.product((0, 2, -1), (good, bad), (0, 2)):
            with self.assertRaises(InvalidModel):
                homomorphism(bad, start, other, goal)
        for start, other, goal in itertools.product((2, -1, 10**29), (good, bad), (0, 2)):
            with self.assertRaises(InvalidIndex):
                homomorphism(good, start, other, goal)
        for start, goal in itertools.product((0, 1), (0, 2, -1)):
            with self.assertRaises(InvalidModel):
                homomorphism(good, start, bad, goal)
        for start, goal in itertools.product((0, 1), (2, 3, -1, 10**29, -(10**29))):
            with self.assertRaises(InvalidIndex):
                homomorphism(good, start, good, goal)
        for name, wrong in WRONG_MODELS.items():
            with self.subTest(name):
                with self.assertRaises(InvalidModel):
                    homomorphism(wrong, 0, good, 0)
                with self.assertRaises(InvalidModel):
                    homomorphism(good, 0, wrong, 0)


if __name__ == "__main__":
    unittest.main()
