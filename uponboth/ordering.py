"""The order of terms: comparison, certificates, sorting."""

from uponboth.errors import InvalidStep
from uponboth.reduction import reduced_form, reduction_moves
from uponboth.terms import check_term
from uponboth.words import apply_moves, inverse_of, word_below


def compare(one, other):
    """Return equal, less or greater for two terms."""
    check_term(one)
    check_term(other)
    return compared(one, other)


def compared(one, other):
    return shown_by(reduced_form(joint_word(one, other)))


def joint_word(one, other):
    return inverse_of(word_below(one)) + word_below(other)


def shown_by(last):
    """Return the result that a word shows if it is equivalent to the joint word, or None."""
    if last == ():
        return "equal"
    if 1 in last and -1 not in last:
        return "less"
    if -1 in last and 1 not in last:
        return "greater"
    return None


def certificate(one, other):
    """Return a certificate for two terms: the result, moves, and the word to which they lead."""
    check_term(one)
    check_term(other)
    joint = joint_word(one, other)
    last = reduced_form(joint)
    return (shown_by(last), reduction_moves(joint), last)


def check_certificate(one, other, claimed):
    """Return whether a tuple is a valid certificate for two terms."""
    check_term(one)
    check_term(other)
    result, moves, last = claimed
    try:
        reached = apply_moves(joint_word(one, other), moves)
    except InvalidStep:
        return False
    return reached == last and result == shown_by(last)


def sort_terms(terms):
    """Return the indexes of the terms in lists of equal terms, the lists in ascending order."""
    for term in terms:
        check_term(term)
    groups = []
    for index in range(len(terms)):
        place_index(groups, terms, index)
    return groups


def place_index(groups, terms, index):
    """Put an index into the group of its equals, or into a new group at its place in the order."""
    low, high = 0, len(groups)
    while low < high:
        middle = (low + high) // 2
        result = compared(terms[index], terms[groups[middle][0]])
        if result == "equal":
            groups[middle].append(index)
            return
        if result == "less":
            high = middle
        else:
            low = middle + 1
    groups.insert(low, [index])


def least_term(terms):
    """Return the first term that no other one is less than, or None if there is no term."""
    for term in terms:
        check_term(term)
    least = None
    for term in terms:
        if least is None or compared(term, least) == "less":
            least = term
    return least
