"""Programs: definitions of terms by names, brackets and powers."""

from uponboth.errors import DuplicateName, InvalidText, LimitReached, NestingTooDeep, TooLarge, UnknownName
from uponboth.tables import Table
from uponboth.terms import MAX_DEPTH, MAX_SIZE

MAX_DEFINITIONS = 30
MAX_NESTING = 30
MAX_NAME_DIGITS = 2
MAX_POWER_DIGITS = 30
CAPITALS = "ABCDEFGHIJKLMNOPQRSTUVWXYZ"
DIGITS = "0123456789"
FIRST_DIGITS = "123456789"


class Reader:
    """Reads definitions from left to right.

    An expression becomes a list of pairs in which every operation stands behind
    its operands. So neither reading nor computing it needs nested calls, however
    deep the brackets are.
    """

    def __init__(self, text):
        self.text = text
        self.place = 0
        self.deepest = 0

    def at_end(self):
        return self.place == len(self.text)

    def sees(self, signs):
        """Return whether the next character is one of these."""
        return not self.at_end() and self.text[self.place] in signs

    def take(self, signs):
        """Read and return one character, which must be one of these."""
        if not self.sees(signs):
            raise InvalidText(self.place)
        self.place += 1
        return self.text[self.place - 1]

    def take_digits(self, most):
        digits = ""
        while len(digits) < most and self.sees(DIGITS):
            digits += self.take(DIGITS)
        return digits

    def take_name(self):
        return self.take(CAPITALS) + self.take_digits(MAX_NAME_DIGITS)

    def take_powers(self):
        powers = []
        while self.sees("^_"):
            sign = self.take("^_")
            number = self.take(FIRST_DIGITS) + self.take_digits(MAX_POWER_DIGITS - 1)
            powers.append((sign, int(number)))
        return powers

    def take_atom(self):
        if self.sees("x"):
            return (self.take("x"), 1)
        return ("name", self.take_name())

    def take_expression(self):
        steps = []
        # For each open bracket, whether its left operand is complete.
        halves = []
        while True:
            while self.sees("("):
                self.take("(")
                halves.append(False)
                self.deepest = max(self.deepest, len(halves))
            steps.append(self.take_atom())
            steps += self.take_powers()
            while halves and halves[-1]:
                self.take(")")
                halves.pop()
                steps.append(("pair", 2))
                steps += self.take_powers()
            if not halves:
                return steps
            halves[-1] = True

    def take_definition(self):
        """Read a definition and return its name, its steps and its text."""
        start = self.place
        name = self.take_name()
        self.take("=")
        steps = self.take_expression()
        return (name, steps, self.text[start : self.place])

    def finish(self):
        """Check what can be checked only when the whole text has been read."""
        if not self.at_end():
            raise InvalidText(self.place)
        if self.deepest > MAX_NESTING:
            raise NestingTooDeep("brackets are nested more than 30 deep")


def read_definition(text):
    reader = Reader(text)
    definition = reader.take_definition()
    reader.finish()
    return definition


def read_source(text):
    """Return the list of all definitions of a source text."""
    if text == "":
        return []
    reader = Reader(text)
    definitions = [reader.take_definition()]
    while reader.sees(";"):
        reader.take(";")
        definitions.append(reader.take_definition())
    reader.finish()
    return definitions


def check_names(known, definitions):
    """Check the names in new definitions that follow the known ones."""
    names = list(known)
    for name, steps, text in definitions:
        for kind, worth in steps:
            if kind == "name" and worth not in names:
                raise UnknownName(worth)
        if name in names:
            raise DuplicateName(name)
        names.append(name)
    if len(names) > MAX_DEFINITIONS:
        raise LimitReached("there are at most 30 definitions")


def computed(steps, known, generator, join, power):
    """Return what an expression gives, where known has what each name gives.

    A power is computed from the sign of the power, the value of its base and its number.
    """
    values = []
    for kind, worth in steps:
        if kind == "x":
            values.append(generator)
        elif kind == "name":
            values.append(known[worth])
        elif kind == "pair":
            right = values.pop()
            left = values.pop()
            values.append(join(left, right))
        else:
            values.append(power(kind, values.pop(), worth))
    return values[0]


def computed_size(steps, sizes):
    return computed(steps, sizes, 1, lambda left, right: left + right, lambda sign, base, number: base * number)


def computed_depth(steps, depths):
    # Each further factor of a power is one level above those before it.
    return computed(
        steps, depths, 0,
        lambda left, right: 1 + max(left, right),
        lambda sign, base, number: base + number - 1,
    )


def computed_term(steps, terms):
    return computed(steps, terms, (), lambda left, right: (left, right), power_term)


def power_term(sign, base, number):
    term = base
    for factor in range(number - 1):
        term = (base, term) if sign == "^" else (term, base)
    return term


def computed_value(table, steps, known):
    return computed(
        steps, known, 1,
        lambda left, right: table.apply(left, right),
        lambda sign, base, number: power_value(table, sign, base, number),
    )


def power_value(table, sign, base, number):
    if sign == "^":
        return repeated(lambda value: table.apply(base, value), base, number - 1)
    return repeated(lambda value: table.apply(value, base), base, number - 1)


def repeated(step, start, times):
    """Return what is reached from a start after any number of steps between finitely many values."""
    # The values come back after a while, so most of the steps need not be taken.
    places = {}
    values = []
    value = start
    while value not in places and len(values) < times:
        places[value] = len(values)
        values.append(value)
        value = step(value)
    if value not in places:
        return value
    first = places[value]
    return values[first + (times - first) % (len(values) - first)]


class Program:
    """A sequence of definitions."""

    def __init__(self, text=""):
        self.texts = []
        # For each name, in the order of definition, its steps and what is known of its term.
        self.codes = {}
        self.sizes = {}
        self.depths = {}
        self.include(read_source(text))

    def __len__(self):
        return len(self.texts)

    def __eq__(self, other):
        return isinstance(other, Program) and self.texts == other.texts

    def include(self, definitions):
        """Add definitions: all of them, or none if one is wrong."""
        check_names(self.codes, definitions)
        for name, steps, text in definitions:
            self.texts.append(text)
            self.codes[name] = steps
            self.sizes[name] = computed_size(steps, self.sizes)
            self.depths[name] = computed_depth(steps, self.depths)

    def add_definition(self, text):
        """Add exactly one definition."""
        self.include([read_definition(text)])

    def names(self):
        """Return the list of names in the order of definition."""
        return list(self.codes)

    def source(self):
        """Return the text of all definitions."""
        return ";".join(self.texts)

    def check_name(self, name):
        if name not in self.codes:
            raise UnknownName(name)

    def names_up_to(self, name):
        names = self.names()
        return names[: names.index(name) + 1]

    def size_of(self, name):
        """Return the size of the term of a name."""
        self.check_name(name)
        return self.sizes[name]

    def depth_of(self, name):
        """Return the depth of the term of a name."""
        self.check_name(name)
        return self.depths[name]

    def is_small(self, name):
        return self.sizes[name] <= MAX_SIZE and self.depths[name] <= MAX_DEPTH

    def term(self, name):
        """Return the term of a name."""
        self.check_name(name)
        if not self.is_small(name):
            raise TooLarge(self.sizes[name])
        terms = {}
        # What is needed for a small term is small too; the rest may be huge.
        for needed in self.names_up_to(name):
            if self.is_small(needed):
                terms[needed] = computed_term(self.codes[needed], terms)
        return terms[name]

    def evaluate(self, name, *, size=3):
        """Return the value of the term of a name in the table of a size."""
        self.check_name(name)
        table = Table(size)
        known = {}
        for needed in self.names_up_to(name):
            known[needed] = computed_value(table, self.codes[needed], known)
        return known[name]
