"""The interface of the document: the names of the functions and their parameters."""

import importlib
import inspect
import pathlib
import re
import unittest

ROOT = pathlib.Path(__file__).resolve().parent.parent
DOCUMENT = ROOT.parent / "shared" / "DOC.md"
SIGNATURES = {
    "terms": {
        "is_term": "(term)",
        "size_of": "(term)",
        "depth_of": "(term)",
        "format_term": "(term)",
        "parse_term": "(text)",
        "count_terms": "(size)",
        "index_of": "(term)",
        "term_at": "(size, index)",
        "left_spine": "(term)",
    },
    "rewriting": {
        "subterm": "(term, path)",
        "expand": "(term, path)",
        "contract": "(term, path)",
        "expandable_paths": "(term)",
        "contractible_paths": "(term)",
        "apply_steps": "(term, steps)",
        "full_expansion": "(term)",
        "full_expansion_paths": "(term)",
    },
    "expansions": {
        "expansions": "(term, *, max_size=24)",
        "common_expansion": "(one, other, *, max_size=24)",
    },
    "words": {
        "inverse": "(word)",
        "shifted": "(word, *, by=1)",
        "word_of": "(term)",
        "apply_moves": "(word, moves)",
        "image_of": "(word, symbol)",
        "act_on": "(terms, word)",
    },
    "reduction": {
        "first_handle": "(word)",
        "reduced": "(word)",
        "leading_letter": "(word)",
        "reduction_moves": "(word)",
        "equivalent": "(one, other)",
    },
}


def listed_functions(document, module):
    """The functions that the document lists for a module, each with its parameters."""
    part = document.split(f"## uponboth/{module}.py\n")[1].split("\n## ")[0]
    return dict(re.findall(r"^- `(\w+)(\(.*?\))`:", part, re.MULTILINE))


class InterfaceTests(unittest.TestCase):
    def test_parameters(self):
        for module, functions in SIGNATURES.items():
            found = importlib.import_module(f"uponboth.{module}")
            for name, parameters in functions.items():
                with self.subTest(module=module, name=name):
                    self.assertEqual(str(inspect.signature(getattr(found, name))), parameters)

    @unittest.skipUnless(DOCUMENT.exists(), "the document is not beside the project")
    def test_document_lists_the_same(self):
        document = DOCUMENT.read_text()
        for module, functions in SIGNATURES.items():
            self.assertEqual(listed_functions(document, module), functions)


if __name__ == "__main__":
    unittest.main()
