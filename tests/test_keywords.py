"""Every function and method gives the same value if its parameters are passed by their names in another order."""

import importlib
import inspect
import unittest

from tests.test_interface import COMMANDS, SIGNATURES
from uponboth.console import Console
from uponboth.store import Store

PAIR = ((), ())
THREE = ((), PAIR)
MODEL = ((0, 0), (1, 0))
SOURCE = {"text": "A=(xx);B=A^3_2"}


def some_store():
    store = Store()
    store.batch([("add", "a", THREE), ("add", "b", (PAIR, PAIR)), ("add", "c", ())])
    store.add("d", PAIR)
    store.undo()
    return store


def some_console():
    console = Console(some_store())
    console.execute("order")
    return console


# For each function the arguments of some calls, by name; for a method also the
# arguments that its object is made of, or a function that makes the object.
CALLS = {
    "terms.is_term": [{"term": PAIR}, {"term": ((),)}],
    "terms.size_of": [{"term": THREE}],
    "terms.depth_of": [{"term": THREE}],
    "terms.format_term": [{"term": THREE}],
    "terms.parse_term": [{"text": "(x(xx))"}],
    "terms.count_terms": [{"size": 7}],
    "terms.index_of": [{"term": (PAIR, ())}],
    "terms.term_at": [{"size": 5, "index": 3}],
    "terms.left_spine": [{"term": (PAIR, ())}],
    "rewriting.subterm": [{"term": THREE, "path": "1"}],
    "rewriting.expand": [{"term": THREE, "path": ""}],
    "rewriting.contract": [{"term": (PAIR, PAIR), "path": ""}],
    "rewriting.expandable_paths": [{"term": ((), THREE)}],
    "rewriting.contractible_paths": [{"term": (PAIR, PAIR)}],
    "rewriting.apply_steps": [{"term": THREE, "steps": [("", True), ("", False)]}],
    "rewriting.full_expansion": [{"term": ((), THREE)}],
    "rewriting.full_expansion_paths": [{"term": ((), THREE)}],
    "expansions.expansions": [{"term": THREE}, {"term": ((), THREE), "max_size": 6}],
    "expansions.common_expansion": [{"one": THREE, "other": (PAIR, PAIR)}, {"one": PAIR, "other": THREE, "max_size": 9}],
    "words.inverse": [{"word": (1, -2)}],
    "words.shifted": [{"word": (1, -2)}, {"word": (1, -2), "by": 3}],
    "words.word_of": [{"term": (PAIR, THREE)}],
    "words.apply_moves": [{"word": (1, 2, -1), "moves": [("braid", 0)]}],
    "words.image_of": [{"word": (1, -2), "symbol": 2}],
    "words.act_on": [{"terms": [(), PAIR, ()], "word": (1, 2)}],
    "reduction.first_handle": [{"word": (2, 1, 2, -1)}],
    "reduction.reduced": [{"word": (2, 1, 2, -1)}],
    "reduction.leading_letter": [{"word": (2, 1, 2, -1)}],
    "reduction.reduction_moves": [{"word": (2, 1, 2, -1)}],
    "reduction.equivalent": [{"one": (1, 2, 1), "other": (2, 1, 2)}, {"one": (1,), "other": ()}],
    "ordering.compare": [{"one": (), "other": PAIR}, {"one": PAIR, "other": ()}],
    "ordering.certificate": [{"one": THREE, "other": PAIR}],
    "ordering.check_certificate": [{"one": (), "other": PAIR, "claimed": ("less", [], (1,))}],
    "ordering.sort_terms": [{"terms": [PAIR, (), PAIR]}],
    "ordering.least_term": [{"terms": [PAIR, (), PAIR]}],
    "tables.Table": [{"size": 4}],
    "tables.Table.apply": [({"size": 3}, {"one": 2, "other": 3})],
    "tables.Table.period": [({"size": 3}, {"element": 2})],
    "tables.Table.row_values": [({"size": 3}, {"element": 2})],
    "tables.Table.compose": [({"size": 3}, {"one": 2, "other": 1})],
    "tables.Table.evaluate": [({"size": 3}, {"term": THREE})],
    "tables.Table.project": [({"size": 3}, {"element": 7}), ({"size": 3}, {"element": 7, "size": 2})],
    "tables.separating_table": [{"one": (), "other": PAIR}, {"one": PAIR, "other": (), "limit": 4}],
    "models.first_violation": [{"model": MODEL}],
    "models.value_of": [{"model": MODEL, "start": 1, "term": PAIR}],
    "models.generated_values": [{"model": MODEL, "start": 1}],
    "models.affine_model": [{"modulus": 5}, {"modulus": 5, "factor": 3}],
    "models.product_model": [{"one": MODEL, "other": ((1, 2, 0),) * 3}],
    "models.table_model": [{"size": 2}],
    "models.homomorphism": [{"one": ((1, 1), (0, 1)), "start": 0, "other": ((0,),), "goal": 0}],
    "programs.Program": [{}, SOURCE],
    "programs.Program.add_definition": [(SOURCE, {"text": "C=(AB)"})],
    "programs.Program.names": [(SOURCE, {})],
    "programs.Program.size_of": [(SOURCE, {"name": "B"})],
    "programs.Program.depth_of": [(SOURCE, {"name": "B"})],
    "programs.Program.term": [(SOURCE, {"name": "A"})],
    "programs.Program.evaluate": [(SOURCE, {"name": "B"}), (SOURCE, {"name": "B", "size": 7})],
    "programs.Program.source": [(SOURCE, {})],
    "store.Store": [{}],
    "store.Store.add": [(some_store, {"label": "e", "term": THREE})],
    "store.Store.combine": [(some_store, {"label": "e", "left": "a", "right": "c"})],
    "store.Store.extract": [
        (some_store, {"label": "e", "source": "a"}),
        (some_store, {"label": "e", "source": "a", "right": True}),
    ],
    "store.Store.rewrite": [
        (some_store, {"label": "a", "path": ""}),
        (some_store, {"label": "b", "path": "", "contract": True}),
    ],
    "store.Store.delete": [(some_store, {"label": "a"})],
    "store.Store.batch": [(some_store, {"commands": [("delete", "a"), ("add", "e", ())]})],
    "store.Store.undo": [(some_store, {})],
    "store.Store.redo": [(some_store, {})],
    "store.Store.history": [(some_store, {})],
    "store.Store.clone": [(some_store, {})],
    "store.Store.term": [(some_store, {"label": "a"})],
    "store.Store.labels": [(some_store, {})],
    "store.Store.classes": [(some_store, {})],
    "store.Store.equal_to": [(some_store, {"label": "b"})],
    "store.Store.less_than": [(some_store, {"label": "b"})],
    "store.Store.compare": [(some_store, {"one": "a", "other": "c"})],
    "snapshots.dump": [{"store": some_store()}],
    "snapshots.load": [{"text": "a x\nb (xx)\n"}],
    "console.Console": [{}, {"store": some_store()}],
    "console.Console.execute": [(some_console, {"line": "expand a -"}), ({}, {"line": "order"})],
    "console.Console.store": [(some_console, {})],
    "console.Console.transcript": [(some_console, {})],
}


def split_arguments(function, arguments):
    """The arguments that may be passed by position, and those that are keyword-only."""
    parameters = inspect.signature(function).parameters
    alone = {name for name, one in parameters.items() if one.kind == one.KEYWORD_ONLY}
    by_position = [arguments[name] for name in parameters if name in arguments and name not in alone]
    return by_position, {name: value for name, value in arguments.items() if name in alone}


def ways_of_passing(arguments, positional, alone):
    """The same arguments by position, by name, and by name in reverse."""
    names = list(arguments)
    for many in range(len(positional) + 1):
        rest = names[many : len(positional)]
        named = {**{name: arguments[name] for name in rest}, **alone}
        yield positional[:many], named
        yield positional[:many], {name: named[name] for name in reversed(named)}


def functions_of(name, arguments):
    """A new function or bound method for each call, and the arguments of the call."""
    module, function, *method = name.split(".")
    found = getattr(importlib.import_module(f"uponboth.{module}"), function)
    if not method:
        return (lambda: found), arguments
    made, arguments = arguments
    return (lambda: getattr(made() if callable(made) else found(**made), method[0])), arguments


def shown(value):
    """A value, or what can be compared of an object that has no == of its own."""
    if isinstance(value, Store):
        return (value, value.history())
    if isinstance(value, Console):
        return (value.store(), value.store().history(), value.transcript())
    return value


def outcome(function, positional, named):
    """What a call returns, and the object of a method after the call."""
    result = function(*positional, **named)
    return shown(result), shown(getattr(function, "__self__", None))


class KeywordTests(unittest.TestCase):
    def test_every_function_is_called(self):
        listed = [f"{module}.{name}" for module, functions in SIGNATURES.items() for name in functions]
        listed += [f"store.{name}" for name in COMMANDS]
        self.assertEqual(sorted(CALLS), sorted(listed))

    def test_calls(self):
        for name, calls in CALLS.items():
            for call in calls:
                function, arguments = functions_of(name, call)
                positional, alone = split_arguments(function(), arguments)
                expected = outcome(function(), positional, alone)
                for by_position, named in ways_of_passing(arguments, positional, alone):
                    with self.subTest(name=name, named=list(named)):
                        self.assertEqual(outcome(function(), by_position, named), expected)

    def test_defaults(self):
        for name, calls in CALLS.items():
            for call in calls:
                function, arguments = functions_of(name, call)
                parameters = inspect.signature(function()).parameters
                defaults = {key: one.default for key, one in parameters.items() if one.default is not one.empty}
                omitted = {key: value for key, value in defaults.items() if key not in arguments}
                if omitted:
                    with self.subTest(name=name, omitted=omitted):
                        expected = outcome(function(), (), arguments)
                        self.assertEqual(outcome(function(), (), {**arguments, **omitted}), expected)


if __name__ == "__main__":
    unittest.main()
