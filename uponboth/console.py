"""A console that executes lines on a store."""

from uponboth.errors import (
    DuplicateName, EmptyHistory, InvalidLabel, InvalidPath, InvalidTerm, InvalidText, LimitReached, NotRewritable,
    PathNotFound, TooLarge, UnknownName,
)
from uponboth.store import Store, check_new_label
from uponboth.tables import Table, separating_table
from uponboth.terms import format_term, parse_term

DIGITS = "0123456789"


def add_line(store, label, text):
    # The text is read before the store gets the label, but errors of the label come first.
    check_new_label(store.contents, label)
    store.add(label, parse_term(text))
    return "ok"


def combine_line(store, label, left, right):
    store.combine(label, left, right)
    return "ok"


def left_line(store, label, source):
    store.extract(label, source)
    return "ok"


def right_line(store, label, source):
    store.extract(label, source, right=True)
    return "ok"


def expand_line(store, label, path):
    store.rewrite(label, path_of(path))
    return "ok"


def contract_line(store, label, path):
    store.rewrite(label, path_of(path), contract=True)
    return "ok"


def path_of(word):
    return "" if word == "-" else word


def delete_line(store, label):
    store.delete(label)
    return "ok"


def undo_line(store):
    store.undo()
    return "ok"


def redo_line(store):
    store.redo()
    return "ok"


def show_line(store, label):
    return format_term(store.term(label))


def order_line(store):
    groups = ["=".join(group) for group in store.classes()]
    return " < ".join(groups) if groups else "none"


def compare_line(store, one, other):
    return store.compare(one, other)


def value_line(store, label, digit):
    return str(Table(int(digit)).evaluate(store.term(label)))


def separate_line(store, one, other):
    first = store.term(one)
    found = separating_table(first, store.term(other))
    return "none" if found is None else f"{found[0]}: {found[1]} {found[2]}"


ACTIONS = {
    "add": add_line,
    "combine": combine_line,
    "left": left_line,
    "right": right_line,
    "expand": expand_line,
    "contract": contract_line,
    "delete": delete_line,
    "undo": undo_line,
    "redo": redo_line,
    "show": show_line,
    "order": order_line,
    "compare": compare_line,
    "value": value_line,
    "separate": separate_line,
}
# How many words a line has, with the first one.
WORDS = {
    "add": 3, "combine": 4, "left": 3, "right": 3, "expand": 3, "contract": 3, "delete": 2, "undo": 1, "redo": 1,
    "show": 2, "order": 1, "compare": 3, "value": 3, "separate": 3,
}


def is_line(words):
    if "" in words or words[0] not in WORDS or len(words) != WORDS[words[0]]:
        return False
    return words[0] != "value" or is_digit(words[2])


def is_digit(word):
    return len(word) == 1 and word in DIGITS


def answer_to(store, line):
    words = line.split(" ")
    if not is_line(words):
        return "invalid"
    action = ACTIONS[words[0]]
    arguments = words[1:]
    try:
        return action(store, *arguments)
    except InvalidLabel:
        return "error InvalidLabel"
    except DuplicateName:
        return "error DuplicateName"
    except UnknownName:
        return "error UnknownName"
    except InvalidText:
        return "error InvalidText"
    except InvalidTerm:
        return "error InvalidTerm"
    except InvalidPath:
        return "error InvalidPath"
    except PathNotFound:
        return "error PathNotFound"
    except NotRewritable:
        return "error NotRewritable"
    except TooLarge:
        return "error TooLarge"
    except LimitReached:
        return "error LimitReached"
    except EmptyHistory:
        return "error EmptyHistory"


class Console:
    """Executes lines on a store of its own."""

    def __init__(self, store=None):
        self.held = Store() if store is None else store.clone()
        self.executed = []

    def execute(self, line):
        """Execute a line and return the answer."""
        answer = answer_to(self.held, line)
        self.executed.append((line, answer))
        return answer

    def store(self):
        """Return a clone of the store of the console."""
        return self.held.clone()

    def transcript(self):
        """Return the list of all executed lines, each with its answer."""
        return list(self.executed)
