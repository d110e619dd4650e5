"""Every example of the document, for the modules that exist."""

import importlib
import pathlib
import re
import unittest

from uponboth import errors

ROOT = pathlib.Path(__file__).resolve().parent.parent
DOCUMENT = ROOT.parent / "shared" / "DOC.md"
# The modules whose examples must be there; more are taken as they appear.
LANDED = {
    "terms": 9, "rewriting": 8, "expansions": 2, "words": 6, "reduction": 5, "ordering": 5, "tables": 8, "models": 7,
    "programs": 8, "store": 10, "snapshots": 2, "console": 4,
}


def examples_of(document):
    """The examples of the document by module: lists of source lines and the expected answer."""
    examples = {}
    for block in re.findall(r"^```\n(>>> .*?)^```$", document, re.MULTILINE | re.DOTALL):
        lines = block.splitlines()
        source = [line[4:] for line in lines if line.startswith(">>> ")]
        answers = [line for line in lines if not line.startswith(">>> ")]
        module = re.findall(r"from uponboth\.(\w+) import", block)[-1]
        examples.setdefault(module, []).append((source, "\n".join(answers)))
    return examples


def answer_to(source):
    """What the last line of an example gives, in the words of the document."""
    names = {}
    exec("\n".join(source[:-1]), names)
    try:
        return repr(eval(source[-1], names))
    except errors.TermError as error:
        fields = ", ".join([f"{field}={value!r}" for field, value in vars(error).items()])
        return f"raises {type(error).__name__}" + (f"({fields})" if fields else "")


@unittest.skipUnless(DOCUMENT.exists(), "the document is not beside the project")
class ExampleTests(unittest.TestCase):
    def test_examples(self):
        examples = examples_of(DOCUMENT.read_text())
        for module, found in examples.items():
            if module not in LANDED and not (ROOT / "uponboth" / f"{module}.py").exists():
                continue
            for source, answer in found:
                with self.subTest(source=source):
                    self.assertEqual(answer_to(source), answer)

    def test_examples_are_found(self):
        examples = examples_of(DOCUMENT.read_text())
        for module, many in LANDED.items():
            importlib.import_module(f"uponboth.{module}")
            self.assertEqual(len(examples[module]), many)


if __name__ == "__main__":
    unittest.main()
