"""Numbered terms: a step on a large term takes as long as its path."""

GENERATOR = 0


class Pool:
    """Gives every term a number, and identical terms the same number.

    Comparing two terms is then comparing two numbers, at any depth, and the
    size of a term is known when it is numbered.
    """

    def __init__(self):
        self.numbers = {}
        self.pairs = [()]
        self.sizes = [1]
        self.terms = [()]

    def pair(self, left, right):
        """Return the number of the pair of two numbered terms."""
        operands = (left, right)
        if operands not in self.numbers:
            self.numbers[operands] = len(self.pairs)
            self.pairs.append(operands)
            self.sizes.append(self.sizes[left] + self.sizes[right])
            self.terms.append((self.terms[left], self.terms[right]))
        return self.numbers[operands]

    def number_of(self, term):
        """Return the number of a term that is within the bounds."""
        if term == ():
            return GENERATOR
        return self.pair(self.number_of(term[0]), self.number_of(term[1]))

    def renewed(self, number):
        """Return a new pool with only this term and its subterms, and its number there."""
        needed = {number: True}
        # Operands have lower numbers than their pair, so one pass finds all.
        for old in range(number, GENERATOR, -1):
            if old in needed:
                for operand in self.pairs[old]:
                    needed[operand] = True
        pool = Pool()
        moved = {GENERATOR: GENERATOR}
        for old in range(1, number + 1):
            if old in needed:
                left, right = self.pairs[old]
                moved[old] = pool.pair(moved[left], moved[right])
        return pool, moved[number]
