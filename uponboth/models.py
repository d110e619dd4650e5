"""Finite models: the rule, values of terms, affine models, products, homomorphisms."""

from uponboth.errors import InvalidIndex, InvalidModel, InvalidSize
from uponboth.tables import Table
from uponboth.terms import check_term

MAX_ROWS = 12
MAX_MODEL_TABLE = 3


def check_model(model):
    many = len(model)
    if not 1 <= many <= MAX_ROWS or not all([is_row(row, many) for row in model]):
        raise InvalidModel("a model has 1 to 12 rows of as many integers from 0 to below their number")


def is_row(row, many):
    return len(row) == many and all([0 <= value < many for value in row])


def check_start(model, start):
    if not 0 <= start < len(model):
        raise InvalidIndex("the start value is not from 0 to below the number of rows")


def first_violation(model):
    """Return the least (a, b, c) for which the rule does not hold, or None."""
    check_model(model)
    many = len(model)
    for a in range(many):
        for b in range(many):
            for c in range(many):
                if model[a][model[b][c]] != model[model[a][b]][model[a][c]]:
                    return (a, b, c)
    return None


def value_of(model, start, term):
    """Return the value of a term with a start value."""
    check_model(model)
    check_start(model, start)
    check_term(term)
    return value_below(model, start, term)


def value_below(model, start, term):
    if term == ():
        return start
    return model[value_below(model, start, term[0])][value_below(model, start, term[1])]


def generated_values(model, start):
    """Return the ascending list of the values of all terms with a start value."""
    check_model(model)
    check_start(model, start)
    return generated(start, lambda a, b: model[a][b])


def generated(start, operation):
    """Return the ascending list of all that an operation makes of a start, applied any number of times."""
    found = {start: True}
    waiting = [start]
    while waiting:
        one = waiting.pop()
        # Of two values the one that is taken later meets the other one here.
        for other in list(found):
            for result in (operation(one, other), operation(other, one)):
                if result not in found:
                    found[result] = True
                    waiting.append(result)
    return sorted(found)


def affine_model(modulus, *, factor=2):
    """Return the affine model with a modulus from 1 to 12 and a factor."""
    if not 1 <= modulus <= MAX_ROWS:
        raise InvalidSize("the modulus is not from 1 to 12")
    return model_of(modulus, lambda a, b: (a + factor * (b - a)) % modulus)


def model_of(many, operation):
    """Return the model with a number of rows and an operation."""
    return tuple([tuple([operation(a, b) for b in range(many)]) for a in range(many)])


def product_model(one, other):
    """Return the product of two models."""
    check_model(one)
    check_model(other)
    many = len(one) * len(other)
    if many > MAX_ROWS:
        raise InvalidSize("the product would have more than 12 rows")
    return model_of(many, lambda a, b: joined_entry(one, other, a, b))


def joined_entry(one, other, a, b):
    """Return the number of the pair to which the components of two numbered pairs lead."""
    many = len(other)
    return one[a // many][b // many] * many + other[a % many][b % many]


def table_model(size):
    """Return the table of a size from 0 to 3 with every element decreased by 1."""
    if not 0 <= size <= MAX_MODEL_TABLE:
        raise InvalidSize("the size is not from 0 to 3")
    table = Table(size)
    return model_of(len(table), lambda a, b: table.apply(a + 1, b + 1) - 1)


def homomorphism(one, start, other, goal):
    """Return the map from the values of all terms in one model to those in another, or the least conflict."""
    check_model(one)
    check_start(one, start)
    check_model(other)
    check_start(other, goal)
    many = len(other)
    images = {}
    # Numbered as in the product of the models, which may have any number of rows here.
    for both in generated(start * many + goal, lambda a, b: joined_entry(one, other, a, b)):
        images.setdefault(both // many, []).append(both % many)
    for value in images:
        if len(images[value]) > 1:
            return ("conflict", value, images[value][0], images[value][1])
    return ("map", {value: images[value][0] for value in images})
