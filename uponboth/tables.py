"""Finite tables of the operation, and the values of terms in them."""

from uponboth.errors import InvalidElement, InvalidSize
from uponboth.terms import check_term

MAX_TABLE = 9


class Table:
    """The table of a size from 0 to 9, whose last element is 2 to the power of the size."""

    def __init__(self, size):
        if not 0 <= size <= MAX_TABLE:
            raise InvalidSize("the size of a table is from 0 to 9")
        self.size = size
        self.rows = rows_to_periods(1 << size)

    def __len__(self):
        return len(self.rows)

    def __eq__(self, other):
        return isinstance(other, Table) and self.size == other.size

    def __repr__(self):
        return f"Table({self.size})"

    def check_element(self, element):
        if not 1 <= element <= len(self.rows):
            raise InvalidElement("this is not an element of the table")

    def apply(self, one, other):
        """Return one element applied to another."""
        self.check_element(one)
        self.check_element(other)
        return entry(self.rows[one - 1], other)

    def period(self, element):
        """Return the period of an element."""
        self.check_element(element)
        return len(self.rows[element - 1])

    def row_values(self, element):
        """Return the list of the element applied to 1, 2 and so on up to its period."""
        self.check_element(element)
        return list(self.rows[element - 1])

    def compose(self, one, other):
        """Return the element that acts as one does after other."""
        # Applied to 1 it gives its successor, so it is what comes before that.
        successor = self.apply(one, self.apply(other, 1))
        return len(self.rows) if successor == 1 else successor - 1

    def evaluate(self, term):
        """Return the value of a term."""
        check_term(term)
        return self.value_below(term)

    def value_below(self, term):
        if term == ():
            return 1
        return self.apply(self.value_below(term[0]), self.value_below(term[1]))

    def project(self, element, *, size=0):
        """Return the projection of an element to the table of a smaller or equal size."""
        self.check_element(element)
        if not 0 <= size <= self.size:
            raise InvalidSize("the size is not from 0 to the size of the table")
        return projected(element, size)


def rows_to_periods(last):
    """Return the row of each element up to its period, where last is the last element."""
    rows = [[]] * last
    # The last element leaves every element as it is. The values of every other
    # row are greater than its element, so the rows below it are there already.
    rows[last - 1] = list(range(1, last + 1))
    for element in range(last - 1, 0, -1):
        values = [element + 1]
        while values[-1] != last:
            values.append(entry(rows[values[-1] - 1], element + 1))
        rows[element - 1] = values
    return rows


def entry(row, element):
    """Return the value at an element in a row that repeats after its period."""
    return row[(element - 1) % len(row)]


def projected(element, size):
    return (element - 1) % (1 << size) + 1


def separating_table(one, other, *, limit=MAX_TABLE):
    """Return the size of the least table that separates two terms and their values there, or None."""
    check_term(one)
    check_term(other)
    # The values in the smaller tables are the projections of those in the largest one.
    table = Table(limit)
    first, second = table.evaluate(one), table.evaluate(other)
    for size in range(limit + 1):
        values = (projected(first, size), projected(second, size))
        if values[0] != values[1]:
            return (size, *values)
    return None
