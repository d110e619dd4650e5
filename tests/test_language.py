"""The rules of the language that a look at the syntax can see."""

import ast
import builtins
import pathlib
import re
import unittest

PACKAGE = pathlib.Path(__file__).resolve().parent.parent / "uponboth"
FILES = sorted(PACKAGE.glob("*.py"))
BUILTINS = set(
    "len range enumerate zip min max sum abs sorted reversed int str bool bytes list tuple dict set frozenset "
    "isinstance ord repr any all divmod iter next super property staticmethod classmethod Exception ValueError "
    "TypeError KeyError IndexError LookupError ZeroDivisionError ArithmeticError OverflowError RuntimeError "
    "NotImplementedError AttributeError StopIteration NotImplemented".split()
)
METHODS = set(
    "__init__ __eq__ __repr__ __str__ __len__ __enter__ __exit__ __call__ __iter__".split()
)
BARRED_WORDS = re.compile(
    r"\b(type|typing|typing_extensions|enum|Enum|IntEnum|StrEnum|Flag|IntFlag|Generic|Protocol|ABC|ABCMeta"
    r"|namedtuple|NamedTuple|TypedDict|TYPE_CHECKING|abstractmethod)\b|dataclass|overload|contextmanager"
)
BARRED_NAMES = set("register mro elements open input version_info with_traceback add_note".split())
BARRED_NODES = (
    ast.Global, ast.AsyncFunctionDef, ast.AsyncFor, ast.AsyncWith, ast.Await, ast.Div, ast.MatMult, ast.Import,
    ast.MatchClass, ast.MatchMapping,
)
BUILTIN_METHODS = set(
    "append clear copy count endswith extend find get index insert isalnum isalpha isdigit islower isspace isupper "
    "items join keys ljust lower lstrip partition pop remove replace reverse rfind rjust rpartition rsplit rstrip "
    "setdefault split splitlines startswith strip update upper values zfill bit_length title capitalize swapcase "
    "casefold center expandtabs removeprefix removesuffix rindex isascii isdecimal isnumeric istitle isidentifier "
    "isprintable translate".split()
)
MODULE_LEVEL = (ast.ImportFrom, ast.FunctionDef, ast.ClassDef, ast.Assign)


def bound_names(tree):
    """All names that a file gives a meaning to, with the line."""
    for node in ast.walk(tree):
        if isinstance(node, ast.Name) and not isinstance(node.ctx, ast.Load):
            yield node.id, node.lineno
        elif isinstance(node, ast.arg):
            yield node.arg, node.lineno
        elif isinstance(node, (ast.FunctionDef, ast.ClassDef)):
            yield node.name, node.lineno
        elif isinstance(node, ast.Attribute) and isinstance(node.ctx, ast.Store):
            yield node.attr, node.lineno
        elif isinstance(node, ast.ImportFrom):
            for name in node.names:
                yield name.asname or name.name, node.lineno
        elif isinstance(node, ast.ExceptHandler) and node.name:
            yield node.name, node.lineno


def local_names(tree):
    for node in ast.walk(tree):
        if isinstance(node, ast.FunctionDef):
            for inner in ast.walk(node):
                if isinstance(inner, ast.arg):
                    yield inner.arg, inner.lineno
                elif isinstance(inner, ast.Name) and isinstance(inner.ctx, ast.Store):
                    yield inner.id, inner.lineno


class LanguageTests(unittest.TestCase):
    def each(self):
        self.assertGreater(len(FILES), 3)
        for path in FILES:
            text = path.read_text()
            yield path, text, ast.parse(text)

    def test_folder(self):
        for path in PACKAGE.iterdir():
            if path.name != "__pycache__":
                self.assertRegex(path.name, r"^(__init__|__main__|[a-z][a-z0-9_]*)\.py$")

    def test_characters_and_lengths(self):
        for path, text, tree in self.each():
            self.assertEqual(re.findall(r"[^\n -~]", text), [])
            self.assertLessEqual(len(text.splitlines()), 400)
            self.assertLessEqual(max([len(line) for line in text.splitlines()]), 120)
            for node in ast.walk(tree):
                if isinstance(node, ast.FunctionDef):
                    self.assertLessEqual(node.end_lineno - node.lineno + 1, 40, node.name)

    def test_words(self):
        for path, text, tree in self.each():
            self.assertEqual([found.group() for found in BARRED_WORDS.finditer(text)], [])

    def test_statements(self):
        for path, text, tree in self.each():
            self.assertIsNotNone(ast.get_docstring(tree))
            for node in tree.body[1:]:
                self.assertIsInstance(node, MODULE_LEVEL)
            for node in ast.walk(tree):
                self.assertNotIsInstance(node, BARRED_NODES)
                if isinstance(node, ast.ImportFrom):
                    self.assertEqual(node.level, 0)
                    self.assertTrue(node.module.startswith("uponboth."), node.module)
                if isinstance(node, ast.Compare):
                    for sign, value in zip(node.ops, node.comparators):
                        if isinstance(sign, (ast.Is, ast.IsNot)):
                            self.assertIn(ast.unparse(value), ("None", "True", "False"))

    def test_literals(self):
        for path, text, tree in self.each():
            for node in ast.walk(tree):
                if isinstance(node, ast.Constant):
                    self.assertIsInstance(node.value, (int, str, bytes, type(None)))
                    self.assertNotIn("%", str(node.value))
                if isinstance(node, ast.BinOp) and isinstance(node.op, ast.Pow):
                    self.assertIsInstance(node.right, ast.Constant)

    def test_names(self):
        for path, text, tree in self.each():
            for name, line in bound_names(tree):
                self.assertRegex(name, r"^[A-Za-z][A-Za-z0-9_]*$|^__\w+__$", line)
                self.assertNotIn(name, BARRED_NAMES, line)
            for name, line in local_names(tree):
                self.assertFalse(hasattr(builtins, name), f"{name} at line {line}")
            for node in ast.walk(tree):
                if isinstance(node, ast.Name) and hasattr(builtins, node.id):
                    self.assertIn(node.id, BUILTINS, node.lineno)

    def test_locals_are_not_classes_or_imports(self):
        for path, text, tree in self.each():
            taken = [node.name for node in ast.walk(tree) if isinstance(node, ast.ClassDef)]
            for node in ast.walk(tree):
                if isinstance(node, ast.ImportFrom):
                    taken += [name.asname or name.name for name in node.names]
            for name, line in local_names(tree):
                self.assertNotIn(name, taken, line)

    def test_classes(self):
        methods, attributes = set(), set()
        for path, text, tree in self.each():
            for node in ast.walk(tree):
                if isinstance(node, ast.ClassDef):
                    self.assertEqual(node.decorator_list, [])
                    inside = [part.name for part in node.body if isinstance(part, ast.FunctionDef)]
                    self.assertEqual(len(inside), len(set(inside)))
                    methods.update(inside)
                elif isinstance(node, ast.Attribute) and isinstance(node.ctx, ast.Store):
                    attributes.add(node.attr)
        for name in methods:
            if name.startswith("_"):
                self.assertIn(name, METHODS)
        self.assertEqual(methods & attributes, set())

    def test_called_methods(self):
        own = set()
        for path, text, tree in self.each():
            for node in ast.walk(tree):
                if isinstance(node, ast.ClassDef):
                    own.update(part.name for part in node.body if isinstance(part, ast.FunctionDef))
        for path, text, tree in self.each():
            for node in ast.walk(tree):
                if isinstance(node, ast.Call) and isinstance(node.func, ast.Attribute):
                    self.assertIn(node.func.attr, own | BUILTIN_METHODS, node.lineno)

    def test_lists_instead_of_generator_expressions(self):
        # Classes of the package have __eq__, so these take lists.
        for path, text, tree in self.each():
            for node in ast.walk(tree):
                if isinstance(node, ast.Call) and isinstance(node.func, ast.Name):
                    if node.func.id in ("any", "all", "min", "max", "sum", "sorted"):
                        self.assertNotIsInstance(node.args[0], ast.GeneratorExp, node.lineno)

    def test_imports_have_one_direction(self):
        after = {}
        for path, text, tree in self.each():
            names = [node.module.split(".")[1] for node in ast.walk(tree) if isinstance(node, ast.ImportFrom)]
            after[path.stem] = set(names)
        while after:
            free = [name for name in after if not after[name] & set(after)]
            self.assertNotEqual(free, [])
            for name in free:
                del after[name]

    def test_imported_names_are_used(self):
        for path, text, tree in self.each():
            used = {node.id for node in ast.walk(tree) if isinstance(node, ast.Name)}
            for node in tree.body:
                if isinstance(node, ast.ImportFrom):
                    self.assertLessEqual({name.name for name in node.names}, used)


if __name__ == "__main__":
    unittest.main()
