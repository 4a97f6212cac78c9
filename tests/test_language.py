"""The package's own files: the rules of LANGUAGE.md that a short look can see."""

import ast
import builtins
import pathlib
import re
import unittest

PACKAGE = pathlib.Path(__file__).resolve().parent.parent / "lostseat"
BUILTINS = set("""len range enumerate zip min max sum abs sorted reversed int str bool bytes list tuple dict set
    frozenset isinstance ord repr any all divmod Exception ValueError TypeError KeyError IndexError LookupError
    ZeroDivisionError ArithmeticError OverflowError RuntimeError NotImplementedError AttributeError
    StopIteration NotImplemented""".split())
BARRED_WORDS = set("""type typing typing_extensions enum Enum IntEnum StrEnum Flag IntFlag Generic Protocol ABC
    ABCMeta namedtuple NamedTuple TypedDict TYPE_CHECKING abstractmethod""".split())
BARRED_PARTS = ("dataclass", "overload", "contextmanager")
BARRED_NODES = (ast.Global, ast.AsyncFunctionDef, ast.Import, ast.Div)
DOUBLE = {"__init__", "__all__", "__version__"}


def names_bound(tree):
    for node in ast.walk(tree):
        if isinstance(node, ast.Name) and not isinstance(node.ctx, ast.Load):
            yield node.id
        elif isinstance(node, (ast.FunctionDef, ast.ClassDef)):
            yield node.name
        elif isinstance(node, ast.arg):
            yield node.arg
        elif isinstance(node, ast.alias):
            yield node.asname or node.name


def files():
    """The name, the text and the tree of each file of the package."""
    for path in sorted(PACKAGE.glob("*.py")):
        text = path.read_text(encoding="utf-8")
        yield path.name, text, ast.parse(text)


class Rules(unittest.TestCase):
    def test_folder(self):
        for path in PACKAGE.iterdir():
            if path.name != "__pycache__":
                self.assertRegex(path.name, r"^[a-z0-9_]+\.py$")
        self.assertTrue((PACKAGE / "__init__.py").is_file())

    def test_characters_and_sizes(self):
        for name, text, tree in files():
            with self.subTest(file=name):
                self.assertEqual(re.findall(r"[^ -~\n]", text), [])
                rows = text.splitlines()
                self.assertLessEqual(len(rows), 400)
                self.assertLessEqual(max(map(len, rows)), 120)
                for node in ast.walk(tree):
                    if isinstance(node, ast.FunctionDef):
                        self.assertLessEqual(node.end_lineno - node.lineno + 1, 40, node.name)

    def test_words(self):
        for name, text, tree in files():
            with self.subTest(file=name):
                self.assertEqual(BARRED_WORDS & set(re.findall(r"\w+", text)), set())
                for part in BARRED_PARTS:
                    self.assertNotIn(part, text)
                for node in ast.walk(tree):
                    if isinstance(node, ast.Constant):
                        self.assertNotIsInstance(node.value, (float, complex))
                        self.assertNotIn("%", node.value if isinstance(node.value, str) else "")

    def test_imports(self):
        for name, text, tree in files():
            with self.subTest(file=name):
                for node in ast.walk(tree):
                    self.assertNotIsInstance(node, BARRED_NODES)
                    if isinstance(node, ast.ImportFrom):
                        self.assertEqual(node.level, 0)
                        self.assertRegex(node.module, r"^lostseat\.[a-z]+$")
                        self.assertTrue((PACKAGE / (node.module.split(".")[1] + ".py")).is_file())
                        self.assertIn(node, tree.body)

    def test_names(self):
        taken = set(dir(builtins))
        for name, text, tree in files():
            with self.subTest(file=name):
                for bound in names_bound(tree):
                    self.assertTrue(bound in DOUBLE or re.fullmatch(r"[A-Za-z][A-Za-z0-9_]*", bound), bound)
                    self.assertNotIn(bound, taken)
                for node in ast.walk(tree):
                    if isinstance(node, ast.Name) and node.id in taken:
                        self.assertIn(node.id, BUILTINS)


if __name__ == "__main__":
    unittest.main()
