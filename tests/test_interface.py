"""The interface of the document: the names of the functions and their parameters."""

import importlib
import inspect
import pathlib
import re
import unittest

ROOT = pathlib.Path(__file__).resolve().parent.parent
DOCUMENT = ROOT.parent / "shared" / "DOC.md"
SIGNATURES = {
    "terms": {
        "is_term": "(term)",
        "size_of": "(term)",
        "depth_of": "(term)",
        "format_term": "(term)",
        "parse_term": "(text)",
        "count_terms": "(size)",
        "index_of": "(term)",
        "term_at": "(size, index)",
        "left_spine": "(term)",
    },
    "rewriting": {
        "subterm": "(term, path)",
        "expand": "(term, path)",
        "contract": "(term, path)",
        "expandable_paths": "(term)",
        "contractible_paths": "(term)",
        "apply_steps": "(term, steps)",
        "full_expansion": "(term)",
        "full_expansion_paths": "(term)",
    },
    "expansions": {
        "expansions": "(term, *, max_size=24)",
        "common_expansion": "(one, other, *, max_size=24)",
    },
    "words": {
        "inverse": "(word)",
        "shifted": "(word, *, by=1)",
        "word_of": "(term)",
        "apply_moves": "(word, moves)",
        "image_of": "(word, symbol)",
        "act_on": "(terms, word)",
    },
    "reduction": {
        "first_handle": "(word)",
        "reduced": "(word)",
        "leading_letter": "(word)",
        "reduction_moves": "(word)",
        "equivalent": "(one, other)",
    },
    "ordering": {
        "compare": "(one, other)",
        "certificate": "(one, other)",
        "check_certificate": "(one, other, claimed)",
        "sort_terms": "(terms)",
        "least_term": "(terms)",
    },
    "tables": {
        "Table": "(size)",
        "Table.apply": "(one, other)",
        "Table.period": "(element)",
        "Table.row_values": "(element)",
        "Table.compose": "(one, other)",
        "Table.evaluate": "(term)",
        "Table.project": "(element, *, size=0)",
        "separating_table": "(one, other, *, limit=9)",
    },
    "models": {
        "first_violation": "(model)",
        "value_of": "(model, start, term)",
        "generated_values": "(model, start)",
        "affine_model": "(modulus, *, factor=2)",
        "product_model": "(one, other)",
        "table_model": "(size)",
        "homomorphism": "(one, start, other, goal)",
    },
    "programs": {
        "Program": "(text='')",
        "Program.add_definition": "(text)",
        "Program.names": "()",
        "Program.size_of": "(name)",
        "Program.depth_of": "(name)",
        "Program.term": "(name)",
        "Program.evaluate": "(name, *, size=3)",
        "Program.source": "()",
    },
    "store": {
        "Store": "()",
        "Store.undo": "()",
        "Store.redo": "()",
        "Store.history": "()",
        "Store.clone": "()",
        "Store.term": "(label)",
        "Store.labels": "()",
        "Store.classes": "()",
        "Store.equal_to": "(label)",
        "Store.less_than": "(label)",
        "Store.compare": "(one, other)",
    },
    "snapshots": {
        "dump": "(store)",
        "load": "(text)",
    },
    "console": {
        "Console": "(store=None)",
        "Console.execute": "(line)",
        "Console.store": "()",
        "Console.transcript": "()",
    },
}
# The commands of [22] stand outside of the list of the interface.
COMMANDS = {
    "Store.add": "(label, term)",
    "Store.combine": "(label, left, right)",
    "Store.extract": "(label, source, *, right=False)",
    "Store.rewrite": "(label, path, *, contract=False)",
    "Store.delete": "(label)",
    "Store.batch": "(commands)",
}
CONSTANTS = {"terms": {"MAX_SIZE": 12, "MAX_DEPTH": 6}, "tables": {"MAX_TABLE": 9}}


def listed_functions(document, module):
    """The functions, classes and methods that the document lists for a module, each with its parameters."""
    part = document.split(f"## uponboth/{module}.py\n")[1].split("\n## ")[0]
    found = {}
    for entry in re.findall(r"^- (?:class )?(`.*?`(?:, `.*?`)*):", part, re.MULTILINE):
        for name, parameters in re.findall(r"`([\w.]+)(\(.*?\))`", entry):
            found[name] = parameters.replace("MAX_TABLE", "9").replace('"', "'")
    return found


def parameters_of(module, name):
    """The parameters of a function, a class or a method, without the first one of a method."""
    owner, dot, method = name.partition(".")
    found = getattr(module, owner)
    if not dot:
        return str(inspect.signature(found))
    # The class itself has the method, not only a base class.
    return re.sub(r"^\(self(, )?", "(", str(inspect.signature(vars(found)[method])))


class InterfaceTests(unittest.TestCase):
    def test_parameters(self):
        for module, functions in SIGNATURES.items():
            found = importlib.import_module(f"uponboth.{module}")
            for name, parameters in functions.items():
                with self.subTest(module=module, name=name):
                    self.assertEqual(parameters_of(found, name), parameters)

    def test_commands(self):
        found = importlib.import_module("uponboth.store")
        for name, parameters in COMMANDS.items():
            with self.subTest(name):
                self.assertEqual(parameters_of(found, name), parameters)

    def test_constants(self):
        for module, constants in CONSTANTS.items():
            found = importlib.import_module(f"uponboth.{module}")
            for name, value in constants.items():
                self.assertEqual(getattr(found, name), value)

    @unittest.skipUnless(DOCUMENT.exists(), "the document is not beside the project")
    def test_document_lists_the_same(self):
        document = DOCUMENT.read_text()
        for module, functions in SIGNATURES.items():
            self.assertEqual(listed_functions(document, module), functions)
        modules = re.findall(r"^## uponboth/(\w+)\.py$", document, re.MULTILINE)
        self.assertEqual(modules, ["errors", *SIGNATURES])
        for name, parameters in COMMANDS.items():
            self.assertIn("`" + name.removeprefix("Store.") + parameters + "`", document)


if __name__ == "__main__":
    unittest.main()
