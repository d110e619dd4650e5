"""A plain version of the console of [25], and lines for the tests. Nothing here imports the package."""

from tests import order_reference, reference, store_reference

COMMANDS = {
    "add": 2, "combine": 3, "left": 2, "right": 2, "expand": 2, "contract": 2, "delete": 1, "undo": 0, "redo": 0,
    "show": 1, "order": 0, "compare": 2, "value": 2, "separate": 2,
}


class PlainConsole:
    """Keeps all contents since the beginning; at is the index of the present ones."""

    def __init__(self, states=None, at=0):
        self.states = states or [{}]
        self.at = at

    def present(self):
        return self.states[self.at]

    def answer(self, line):
        first, *rest = line.split(" ")
        if "" in (first, *rest) or COMMANDS.get(first) != len(rest):
            return "invalid"
        if first == "value" and rest[1] not in list("0123456789"):
            return "invalid"
        if first in ("undo", "redo"):
            return self.moved(-1 if first == "undo" else 1)
        if first in ("show", "order", "compare", "value", "separate"):
            return self.asked(first, rest)
        result = self.changed(first, rest)
        if store_reference.failed(result):
            return "error " + result[1]
        self.states = self.states[: self.at + 1] + [result]
        self.at += 1
        return "ok"

    def moved(self, by):
        if not 0 <= self.at + by < len(self.states):
            return "error EmptyHistory"
        self.at += by
        return "ok"

    def changed(self, first, rest):
        contents = self.present()
        if first == "add":
            return self.added(*rest)
        if first in ("left", "right"):
            return store_reference.after_extract(contents, *rest, first == "right")
        if first in ("expand", "contract"):
            path = "" if rest[1] == "-" else rest[1]
            return store_reference.after_rewrite(contents, rest[0], path, first == "contract")
        return store_reference.after(contents, (first, *rest))

    def added(self, label, text):
        error = store_reference.new_label(self.present(), label)
        if error:
            return error
        if not reference.is_text(text):
            return ("error", "InvalidText", None)
        return store_reference.after_add(self.present(), label, reference.term_of(text))

    def asked(self, first, rest):
        contents = self.present()
        if first == "order":
            return " < ".join("=".join(group) for group in store_reference.sorted_classes(contents)) or "none"
        if store_reference.unknown(contents, *(rest[:1] if first == "value" else rest)):
            return "error UnknownName"
        if first == "show":
            return reference.text(contents[rest[0]])
        if first == "value":
            return str(order_reference.table_value(int(rest[1]), contents[rest[0]]))
        one, other = contents[rest[0]], contents[rest[1]]
        if first == "compare":
            return order_reference.result_of(one, other)
        found = order_reference.separation(one, other, 9)
        return "none" if found is None else "{}: {} {}".format(*found)


def text_of_term(choices):
    if choices.choice.random() < 0.1:
        return choices.choice.choice(("y", "(x)", "(xx", "xx", ")", "(xxx)", "((xx)", "x" * 50, "X", "-", "()", "x\n"))
    if choices.choice.random() < 0.1:
        return choices.choice.choice([reference.text(reference.left_comb(8)), reference.text(reference.balanced(4))])
    return reference.text(choices.choice.choice(choices.terms))


def random_line(choices, contents):
    """A line that is right mostly, for the present contents."""
    first = choices.choice.choice(
        ("add", "add", "add", "add", "combine", "combine", "left", "right", "expand", "expand", "contract", "delete")
        + ("undo", "redo", "show", "order", "compare", "value", "separate")
    )
    new, known, other = choices.label(contents, False), choices.label(contents, True), choices.label(contents, True)
    rest = {
        "add": [new, text_of_term(choices)],
        "combine": [new, known, other],
        "left": [new, known],
        "right": [new, known],
        "delete": [known],
        "show": [known],
        "compare": [known, other],
        "separate": [known, other],
        "value": [known, choices.choice.choice(list("0123456789") + ["10", "-1", "x", "00", "1\n"])],
    }.get(first, [])
    if first in ("expand", "contract"):
        command, label, path, contract = choices.rewrite(contents)
        first, rest = "contract" if contract else "expand", [label, path or "-"]
    return " ".join([first, *rest])


def damaged_line(choices, line):
    """A line with a mistake in its words or spaces."""
    words = line.split(" ")
    at = choices.choice.randrange(len(words))
    return choices.choice.choice(
        (
            " " + line, line + " ", line.replace(" ", "  ", 1), line + " x", " ".join(words[:-1]), line.upper(), "",
            " ", "  ", " ".join(words[:at] + ["", *words[at:]]), "x" + line, line.replace(" ", "\n"), line[1:],
        )
    )
