"""The interface of the document: the names of the functions and their parameters."""

import importlib
import inspect
import pathlib
import re
import unittest

ROOT = pathlib.Path(__file__).resolve().parent.parent
DOCUMENT = ROOT.parent / "shared" / "DOC.md"
SIGNATURES = {
    "terms": {
        "is_term": "(term)",
        "size_of": "(term)",
        "depth_of": "(term)",
        "format_term": "(term)",
        "parse_term": "(text)",
        "count_terms": "(size)",
        "index_of": "(term)",
        "term_at": "(size, index)",
        "left_spine": "(term)",
    },
    "rewriting": {
        "subterm": "(term, path)",
        "expand": "(term, path)",
        "contract": "(term, path)",
        "expandable_paths": "(term)",
        "contractible_paths": "(term)",
        "apply_steps": "(term, steps)",
        "full_expansion": "(term)",
        "full_expansion_paths": "(term)",
    },
    "expansions": {
        "expansions": "(term, *, max_size=24)",
        "common_expansion": "(one, other, *, max_size=24)",
    },
    "words": {
        "inverse": "(word)",
        "shifted": "(word, *, by=1)",
        "word_of": "(term)",
        "apply_moves": "(word, moves)",
        "image_of": "(word, symbol)",
        "act_on": "(terms, word)",
    },
    "reduction": {
        "first_handle": "(word)",
        "reduced": "(word)",
        "leading_letter": "(word)",
        "reduction_moves": "(word)",
        "equivalent": "(one, other)",
    },
    "ordering": {
        "compare": "(one, other)",
        "certificate": "(one, other)",
        "check_certificate": "(one, other, claimed)",
        "sort_terms": "(terms)",
        "least_term": "(terms)",
    },
    "tables": {
        "Table": "(size)",
        "Table.apply": "(one, other)",
        "Table.period": "(element)",
        "Table.row_values": "(element)",
        "Table.compose": "(one, other)",
        "Table.evaluate": "(term)",
        "Table.project": "(element, *, size=0)",
        "separating_table": "(one, other, *, limit=9)",
    },
    "models": {
        "first_violation": "(model)",
        "value_of": "(model, start, term)",
        "generated_values": "(model, start)",
        "affine_model": "(modulus, *, factor=2)",
        "product_model": "(one, other)",
        "table_model": "(size)",
        "homomorphism": "(one, start, other, goal)",
    },
}


def listed_functions(document, module):
    """The functions, classes and methods that the document lists for a module, each with its parameters."""
    part = document.split(f"## uponboth/{module}.py\n")[1].split("\n## ")[0]
    found = {}
    for entry in re.findall(r"^- (?:class )?(`.*?`(?:, `.*?`)*):", part, re.MULTILINE):
        for name, parameters in re.findall(r"`([\w.]+)(\(.*?\))`", entry):
            found[name] = parameters.replace("MAX_TABLE", "9").replace('"', "'")
    return found


def parameters_of(module, name):
    """The parameters of a function, a class or a method, without the first one of a method."""
    owner, dot, method = name.partition(".")
    found = getattr(module, owner)
    if not dot:
        return str(inspect.signature(found))
    # The class itself has the method, not only a base class.
    return re.sub(r"^\(self(, )?", "(", str(inspect.signature(vars(found)[method])))


class InterfaceTests(unittest.TestCase):
    def test_parameters(self):
        for module, functions in SIGNATURES.items():
            found = importlib.import_module(f"uponboth.{module}")
            for name, parameters in functions.items():
                with self.subTest(module=module, name=name):
                    self.assertEqual(parameters_of(found, name), parameters)

    @unittest.skipUnless(DOCUMENT.exists(), "the document is not beside the project")
    def test_document_lists_the_same(self):
        document = DOCUMENT.read_text()
        for module, functions in SIGNATURES.items():
            self.assertEqual(listed_functions(document, module), functions)


if __name__ == "__main__":
    unittest.main()
