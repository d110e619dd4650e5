"""The expansions of a term, and the first one that two terms have in common."""

from uponboth.errors import InvalidSize, TooLarge
from uponboth.pool import Pool
from uponboth.rewriting import expanded
from uponboth.terms import check_term

MAX_EXPANSION_SIZE = 30
MAX_EXPANSIONS = 500


def expansions(term, *, max_size=24):
    """Return the list of all expansions of at most a size, in the order of terms."""
    pool = Pool()
    origins = found_expansions(pool, term, max_size)
    return [pool.terms[number] for number in in_order(pool, origins)]


def common_expansion(one, other, *, max_size=24):
    """Return the first common expansion and the paths to it from both terms, or None."""
    pool = Pool()
    from_one = found_expansions(pool, one, max_size)
    from_other = found_expansions(pool, other, max_size)
    for number in in_order(pool, from_one):
        if number in from_other:
            return (pool.terms[number], paths_to(from_one, number), paths_to(from_other, number))
    return None


def found_expansions(pool, term, max_size):
    """Return the numbers of all expansions, each with the number and the path that it comes from.

    The term itself comes from None.
    """
    check_term(term)
    if not 1 <= max_size <= MAX_EXPANSION_SIZE:
        raise InvalidSize("the greatest size is not from 1 to 30")
    origins = {}
    # A step only makes a term larger, so no way to a small one leads through a large one.
    waiting = [(pool.number_of(term), None, "")]
    while waiting:
        number, origin, path = waiting.pop()
        if number in origins or pool.sizes[number] > max_size:
            continue
        origins[number] = (origin, path)
        if len(origins) > MAX_EXPANSIONS:
            raise TooLarge(max_size)
        waiting += [(after, number, place) for place, after in steps_from(pool, number)]
    return origins


def steps_from(pool, number):
    """Return the path of each expansion step of a term and the number of its result."""
    if pool.pairs[number] == ():
        return []
    left, right = pool.pairs[number]
    steps = [(f"0{path}", pool.pair(after, right)) for path, after in steps_from(pool, left)]
    steps += [(f"1{path}", pool.pair(left, after)) for path, after in steps_from(pool, right)]
    whole = expanded(pool, number)
    return steps if whole is None else [("", whole)] + steps


def in_order(pool, numbers):
    return sorted(numbers, key=lambda number: sizes_inside(pool, number))


def sizes_inside(pool, number):
    """Return the sizes of the term and of all its subterms, each before those of its operands.

    Lists of these are ordered as the terms are.
    """
    sizes = [pool.sizes[number]]
    for operand in pool.pairs[number]:
        sizes += sizes_inside(pool, operand)
    return sizes


def paths_to(origins, number):
    """Return the paths at which expanding in turn leads to a found expansion."""
    paths = []
    origin, path = origins[number]
    while origin is not None:
        paths.append(path)
        origin, path = origins[origin]
    paths.reverse()
    return paths
