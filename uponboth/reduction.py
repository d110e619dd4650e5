"""Reduction of words: handles, the reduced form, the leading letter."""

from uponboth.words import check_word, inverse_of, with_sign


class Scan:
    """Reads a word from left to right up to the end of its first handle.

    No handle ends in the letters that are done. So what a removed handle leaves
    is read again, but nothing before it.
    """

    def __init__(self, word):
        self.done = []
        self.waiting = list(reversed(word))
        # For each magnitude the indexes of its letters among those that are done.
        self.places = {}

    def last_place(self, magnitude):
        """Return the index of the last letter of a magnitude that is done, or -1."""
        indexes = self.places.get(magnitude)
        return indexes[-1] if indexes else -1

    def handle_start(self):
        """Return the index of the first letter of the handle that the next letter ends, or -1."""
        letter = self.waiting[-1]
        start = self.last_place(abs(letter))
        if start > self.last_place(abs(letter) - 1) and self.done[start] == -letter:
            return start
        return -1

    def find_handle(self):
        """Read up to the last letter of the first handle; return the index of its first letter, or -1."""
        while self.waiting:
            start = self.handle_start()
            if start >= 0:
                return start
            self.read_letter()
        return -1

    def read_letter(self):
        letter = self.waiting.pop()
        self.places.setdefault(abs(letter), []).append(len(self.done))
        self.done.append(letter)

    def take_handle(self, start):
        """Remove the handle that the next letter ends and return its letters."""
        handle = self.done[start:]
        for letter in handle:
            self.places[abs(letter)].pop()
        del self.done[start:]
        handle.append(self.waiting.pop())
        return handle

    def put_back(self, letters):
        """Let letters be the next ones to be read."""
        self.waiting.extend(list(reversed(letters)))


def first_handle(word):
    """Return the indexes of the first and last letter of the first handle, or None."""
    check_word(word)
    scan = Scan(word)
    start = scan.find_handle()
    return None if start < 0 else (start, len(scan.done))


def reduced(word):
    """Return the reduced form of a word."""
    check_word(word)
    return reduced_form(word)


def reduced_form(word):
    scan = Scan(word)
    start = scan.find_handle()
    while start >= 0:
        scan.put_back(without_handle(scan.take_handle(start)))
        start = scan.find_handle()
    return tuple(scan.done)


def without_handle(handle):
    """Return the letters that are left where a handle is removed."""
    first = handle[0]
    outer = with_sign(abs(first) + 1, first)
    left = []
    for letter in handle[1:-1]:
        if abs(letter) == abs(outer):
            left += [-outer, with_sign(abs(first), letter), outer]
        else:
            left.append(letter)
    return left


def leading_letter(word):
    """Return the leading letter of a word, or 0."""
    check_word(word)
    return leading_of(word)


def leading_of(word):
    return min(reduced_form(word), key=abs, default=0)


def reduction_moves(word):
    """Return a list of moves that lead from the word to its reduced form."""
    check_word(word)
    moves = []
    scan = Scan(word)
    start = scan.find_handle()
    while start >= 0:
        handle = scan.take_handle(start)
        moves += removing_moves(start, handle)
        scan.put_back(without_handle(handle))
        start = scan.find_handle()
    return moves


def removing_moves(at, handle):
    """Return the moves that remove a handle, where at is the index of its first letter."""
    # The first letter moves to the right until it meets its opposite. To pass
    # a letter of the next magnitude it needs its opposite behind that letter.
    first = handle[0]
    moves = []
    for letter in handle[1:-1]:
        if abs(letter) == abs(first) + 1:
            moves += [("insert", at + 2, -first), ("braid", at)]
            at += 3
        else:
            moves.append(("swap", at))
            at += 1
    return moves + [("cancel", at)]


def equivalent(one, other):
    """Return whether two words are equivalent."""
    check_word(one)
    check_word(other)
    return leading_of(inverse_of(one) + other) == 0
