"""Rewriting: paths, expanding and contracting, the full expansion."""

from uponboth.errors import InvalidPath, InvalidStep, NotRewritable, PathNotFound, TooLarge
from uponboth.pool import Pool
from uponboth.terms import check_term

MAX_PATH = 60
MAX_STEP_SIZE = 2000
MAX_FULL_SIZE = 500
# A long list of steps would otherwise keep every term that it ever passed.
MAX_POOL = 20000


def subterm(term, path):
    """Return the subterm at a path."""
    check_term(term)
    pool = Pool()
    return pool.terms[numbers_along(pool, pool.number_of(term), path)[-1]]


def check_path(path):
    if len(path) > MAX_PATH or path.strip("01") != "":
        raise InvalidPath("a path has at most 60 characters 0 and 1")


def numbers_along(pool, number, path):
    """Return the numbers of the term and of the subterms that the path leads through."""
    check_path(path)
    along = [number]
    for turn in path:
        operands = pool.pairs[along[-1]]
        if operands == ():
            raise PathNotFound("the path leads below a generator")
        along.append(operands[int(turn)])
    return along


def expand(term, path):
    """Return the term expanded at a path."""
    return rewritten_term(term, path, True)


def contract(term, path):
    """Return the term contracted at a path."""
    return rewritten_term(term, path, False)


def rewritten_term(term, path, expanding):
    check_term(term)
    pool = Pool()
    return pool.terms[rewritten_at(pool, pool.number_of(term), path, expanding)]


def rewritten_at(pool, number, path, expanding):
    """Return the number of the term rewritten at a path."""
    along = numbers_along(pool, number, path)
    result = rewritten(pool, along[-1], expanding)
    if result is None:
        raise NotRewritable("the subterm does not have the form that the step needs")
    for at in range(len(path) - 1, -1, -1):
        left, right = pool.pairs[along[at]]
        result = pool.pair(result, right) if path[at] == "0" else pool.pair(left, result)
    return result


def rewritten(pool, number, expanding):
    """Return the number of the term rewritten at its root, or None."""
    if pool.pairs[number] == ():
        return None
    if expanding:
        return expanded(pool, number)
    return contracted(pool, number)


def expanded(pool, number):
    acting, right = pool.pairs[number]
    if pool.pairs[right] == ():
        return None
    first, second = pool.pairs[right]
    return pool.pair(pool.pair(acting, first), pool.pair(acting, second))


def contracted(pool, number):
    left, right = pool.pairs[number]
    if pool.pairs[left] == () or pool.pairs[right] == ():
        return None
    acting, first = pool.pairs[left]
    again, second = pool.pairs[right]
    if acting != again:
        return None
    return pool.pair(acting, pool.pair(first, second))


def expandable_paths(term):
    """Return the list of all paths where the term can be expanded."""
    return rewritable_paths(term, True)


def contractible_paths(term):
    """Return the list of all paths where the term can be contracted."""
    return rewritable_paths(term, False)


def rewritable_paths(term, expanding):
    check_term(term)
    pool = Pool()
    places = places_below(pool, pool.number_of(term), "")
    return [path for path, number in places if rewritten(pool, number, expanding) is not None]


def places_below(pool, number, path):
    """Return the path and the number of each subterm, in the order of the texts of the paths."""
    places = [(path, number)]
    for turn, operand in enumerate(pool.pairs[number]):
        places += places_below(pool, operand, f"{path}{turn}")
    return places


def apply_steps(term, steps):
    """Return the result of a list of steps, each a path and True to expand or False to contract."""
    check_term(term)
    pool = Pool()
    number = pool.number_of(term)
    for position, (path, expanding) in enumerate(steps):
        try:
            number = rewritten_at(pool, number, path, expanding)
        except (InvalidPath, PathNotFound, NotRewritable):
            raise InvalidStep(position) from None
        if pool.sizes[number] > MAX_STEP_SIZE:
            raise TooLarge(pool.sizes[number])
        if len(pool.pairs) > MAX_POOL:
            pool, number = pool.renewed(number)
    return pool.terms[number]


def full_expansion(term):
    """Return the full expansion of a term."""
    check_full_expansion(term)
    pool = Pool()
    return pool.terms[full_number(pool, pool.number_of(term))]


def check_full_expansion(term):
    check_term(term)
    size = full_size(term)
    if size > MAX_FULL_SIZE:
        raise TooLarge(size)


def full_size(term):
    if term == ():
        return 1
    return (full_size(term[0]) + 1) * full_size(term[1])


def full_number(pool, number):
    """Return the number of the full expansion of a numbered term."""
    if pool.pairs[number] == ():
        return number
    left, right = pool.pairs[number]
    return spread(pool, full_number(pool, left), full_number(pool, right))


def spread(pool, acting, number):
    """Return the number of the term in which the acting term is applied to every generator."""
    if pool.pairs[number] == ():
        return pool.pair(acting, number)
    left, right = pool.pairs[number]
    return pool.pair(spread(pool, acting, left), spread(pool, acting, right))


def full_expansion_paths(term):
    """Return a list of paths at which expanding in turn leads to the full expansion."""
    check_full_expansion(term)
    pool = Pool()
    return full_paths(pool, pool.number_of(term), "")


def full_paths(pool, number, path):
    # Both operands come first; then the left one moves down to the generators
    # of the right one, by one step at each of its pairs, from the top.
    if pool.pairs[number] == ():
        return []
    left, right = pool.pairs[number]
    paths = full_paths(pool, left, f"{path}0") + full_paths(pool, right, f"{path}1")
    spreading = places_below(pool, full_number(pool, right), path)
    return paths + [place for place, part in spreading if pool.pairs[part] != ()]
