"""Snapshots: the text of a store."""

from uponboth.errors import InvalidSnapshot, InvalidTerm, InvalidText
from uponboth.store import MAX_LABELS, is_label, store_of
from uponboth.terms import format_term, parse_term


def dump(store):
    """Return the snapshot of a store."""
    return "".join([f"{label} {format_term(store.term(label))}\n" for label in store.labels()])


def load(text):
    """Return the store of a snapshot with an empty history."""
    rows = text.split("\n")
    # Every row ends with a line feed, so nothing may follow the last one.
    rest = rows.pop()
    contents = {}
    before = ""
    for at, row in enumerate(rows):
        label, space, written = row.partition(" ")
        # The empty text is less than every label, so the first one passes.
        if at >= MAX_LABELS or not is_label(label) or label <= before:
            raise InvalidSnapshot(at)
        contents[label] = term_in_row(at, written)
        before = label
    if rest != "":
        raise InvalidSnapshot(len(rows))
    return store_of(contents)


def term_in_row(at, written):
    try:
        return parse_term(written)
    except (InvalidText, InvalidTerm):
        raise InvalidSnapshot(at) from None
