"""Terms: nested tuples, their texts and their order."""

from uponboth.errors import InvalidIndex, InvalidSize, InvalidTerm, InvalidText

MAX_SIZE = 12
MAX_DEPTH = 6
MAX_COUNTED_SIZE = 30


def is_term(term):
    """Return whether a nested tuple is a term within the bounds."""
    # A passed tuple may be nested very deep or share its parts, so the search
    # keeps a list of its own and ends at the first violation.
    waiting = [(term, 0)]
    size = 0
    while waiting:
        part, depth = waiting.pop()
        if part == ():
            size += 1
        elif is_pair(part) and depth < MAX_DEPTH:
            waiting.append((part[0], depth + 1))
            waiting.append((part[1], depth + 1))
        else:
            return False
        if size > MAX_SIZE:
            return False
    return True


def is_pair(part):
    return isinstance(part, tuple) and len(part) == 2


def check_term(term):
    if not is_term(term):
        raise InvalidTerm("this is not a term within the bounds")


def size_of(term):
    """Return the number of generators of a term."""
    check_term(term)
    return generators_in(term)


def generators_in(term):
    if term == ():
        return 1
    return generators_in(term[0]) + generators_in(term[1])


def depth_of(term):
    """Return the depth of a term."""
    check_term(term)
    return levels_in(term)


def levels_in(term):
    if term == ():
        return 0
    return 1 + max(levels_in(term[0]), levels_in(term[1]))


def format_term(term):
    """Return the text of a term."""
    check_term(term)
    return written(term)


def written(term):
    if term == ():
        return "x"
    return f"({written(term[0])}{written(term[1])})"


def parse_term(text):
    """Return the term of a text."""
    term = read_term(text)
    check_term(term)
    return term


def read_term(text):
    # One list of operands for each open bracket, below them the list for the
    # whole text, which has room for one term only: a text may be nested deeper
    # than calls should be.
    open_lists = [[]]
    for position, sign in enumerate(text):
        if sign == "x" and has_room(open_lists):
            open_lists[-1].append(())
        elif sign == "(" and has_room(open_lists):
            open_lists.append([])
        elif sign == ")" and len(open_lists[-1]) == 2:
            pair = tuple(open_lists.pop())
            open_lists[-1].append(pair)
        else:
            raise InvalidText(position)
    if len(open_lists[0]) == 0:
        raise InvalidText(len(text))
    return open_lists[0][0]


def has_room(open_lists):
    room = 1 if len(open_lists) == 1 else 2
    return len(open_lists[-1]) < room


def count_terms(size):
    """Return the number of terms of a size from 1 to 30."""
    if not 1 <= size <= MAX_COUNTED_SIZE:
        raise InvalidSize("the size is not from 1 to 30")
    return shapes_of(size)


def shapes_of(size):
    # These are the Catalan numbers; each follows from the one before it.
    count = 1
    for pairs in range(1, size):
        count = count * 2 * (2 * pairs - 1) // (pairs + 1)
    return count


def shapes_split(size, left_size):
    return shapes_of(left_size) * shapes_of(size - left_size)


def index_of(term):
    """Return the index of a term among all terms of its size."""
    check_term(term)
    return index_among(term)


def index_among(term):
    if term == ():
        return 0
    left, right = term
    left_size = generators_in(left)
    right_size = generators_in(right)
    size = left_size + right_size
    before = sum([shapes_split(size, smaller) for smaller in range(1, left_size)])
    return before + index_among(left) * shapes_of(right_size) + index_among(right)


def term_at(size, index):
    """Return the term of a size from 1 to 12 with an index."""
    if not 1 <= size <= MAX_SIZE:
        raise InvalidSize("the size is not from 1 to 12")
    if not 0 <= index < shapes_of(size):
        raise InvalidIndex("no term of this size has this index")
    return nth_term(size, index)


def nth_term(size, index):
    if size == 1:
        return ()
    left_size = 1
    while index >= shapes_split(size, left_size):
        index -= shapes_split(size, left_size)
        left_size += 1
    right_size = size - left_size
    left_index, right_index = divmod(index, shapes_of(right_size))
    return (nth_term(left_size, left_index), nth_term(right_size, right_index))


def left_spine(term):
    """Return the list of the term, its left operand, and so on down to the generator."""
    check_term(term)
    spine = [term]
    while spine[-1] != ():
        spine.append(spine[-1][0])
    return spine
