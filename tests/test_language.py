"""The package keeps to the small part of Python that it is written in; what can be seen of it by its rows."""

import ast
import builtins
import pathlib
import re
import unittest

PACKAGE = pathlib.Path(__file__).resolve().parent.parent / "ribboncast"
FILES = sorted(PACKAGE.rglob("*.py"))

OWN_NAMES = set(
    "len range enumerate zip min max sum abs sorted reversed int str bool bytes list tuple dict set isinstance ord "
    "repr any all divmod ValueError KeyError IndexError LookupError ZeroDivisionError StopIteration".split()
)

BARRED_WORDS = (
    "type typing typing_extensions enum Enum IntEnum StrEnum Flag IntFlag Generic Protocol ABC ABCMeta namedtuple "
    "NamedTuple TypedDict TYPE_CHECKING abstractmethod register mro elements open input version_info with_traceback "
    "add_note"
).split()

OWN_METHODS = (
    "append clear copy count endswith extend find get index insert isalnum isalpha isdigit islower isspace isupper items "
    "join keys ljust lower lstrip partition pop remove replace reverse rfind rjust rpartition rsplit rstrip setdefault "
    "split splitlines startswith strip update upper values zfill bit_length sort"
).split()

TOP_NODES = (ast.Expr, ast.ImportFrom, ast.FunctionDef, ast.ClassDef, ast.Assign)

BARRED_NODES = (
    ast.GeneratorExp, ast.NamedExpr, ast.Starred, ast.Div, ast.With, ast.Match, ast.Global, ast.Nonlocal, ast.Yield,
    ast.YieldFrom, ast.AsyncFunctionDef, ast.Await, ast.Import,
)


def tree_of(path):
    return ast.parse(path.read_text(encoding="utf-8"))


def nodes_of_all():
    return [(path.name, node) for path in FILES for node in ast.walk(tree_of(path))]


class Language(unittest.TestCase):
    def test_files(self):
        self.assertIn(PACKAGE / "__init__.py", FILES)
        for path in PACKAGE.iterdir():
            if path.name != "__pycache__":
                self.assertRegex(path.name, r"^([a-z][a-z0-9_]*|__init__|__main__)\.py$")

    def test_signs_and_lengths(self):
        for path in FILES:
            text = path.read_bytes().decode("ascii")
            self.assertRegex(text, r"\A[ -~\n]*\Z", path.name)
            rows = text.split("\n")
            self.assertLessEqual(len(rows), 401, path.name)
            self.assertLessEqual(max(len(row) for row in rows), 120, path.name)

    def test_words(self):
        for path in FILES:
            text = path.read_text(encoding="utf-8")
            for word in BARRED_WORDS:
                self.assertIsNone(re.search(rf"\b{word}\b", text), (path.name, word))

    def test_forms(self):
        for name, node in nodes_of_all():
            self.assertNotIsInstance(node, BARRED_NODES, name)
            if isinstance(node, ast.FunctionDef):
                self.assertLessEqual(node.end_lineno - node.lineno + 1, 40, (name, node.name))
                self.assertEqual(node.decorator_list, [], (name, node.name))
            if isinstance(node, ast.Compare):
                for sign, right in zip(node.ops, node.comparators):
                    if isinstance(sign, (ast.Is, ast.IsNot)):
                        self.assertIn(getattr(right, "value", 0), (None, True, False), name)
            if isinstance(node, ast.Constant):
                self.assertNotIsInstance(node.value, float, name)
                if isinstance(node.value, str):
                    self.assertNotIn("%", node.value, name)

    def test_imports(self):
        for name, node in nodes_of_all():
            if isinstance(node, ast.ImportFrom):
                self.assertEqual(node.level, 0, name)
                self.assertRegex(node.module, r"^ribboncast\.[a-z_]+$", name)
                self.assertNotIn("*", [drawn.name for drawn in node.names], name)

    def test_the_top_of_a_file(self):
        for path in FILES:
            bound = []
            for at, node in enumerate(tree_of(path).body):
                self.assertIsInstance(node, TOP_NODES, path.name)
                if isinstance(node, ast.Expr):
                    self.assertEqual((at, isinstance(node.value, ast.Constant)), (0, True), path.name)
                elif isinstance(node, ast.ImportFrom):
                    bound += [drawn.asname or drawn.name for drawn in node.names]
                elif isinstance(node, ast.Assign):
                    bound += [target.id for target in node.targets]
                else:
                    bound.append(node.name)
            self.assertEqual(len(bound), len(set(bound)), path.name)

    def test_nothing_is_called_like_an_import(self):
        for path in FILES:
            nodes = list(ast.walk(tree_of(path)))
            drawn = [name.name for node in nodes if isinstance(node, ast.ImportFrom) for name in node.names]
            given = [node.id for node in nodes if isinstance(node, ast.Name) and isinstance(node.ctx, ast.Store)]
            given += [node.arg for node in nodes if isinstance(node, ast.arg)]
            self.assertEqual(set(drawn) & set(given), set(), path.name)
            read = [node.id for node in nodes if isinstance(node, ast.Name) and isinstance(node.ctx, ast.Load)]
            self.assertEqual(set(drawn) - set(read), set(), path.name)

    def test_methods(self):
        own = [node.name for name, node in nodes_of_all() if isinstance(node, ast.FunctionDef)]
        for name, node in nodes_of_all():
            if isinstance(node, ast.Call) and isinstance(node.func, ast.Attribute):
                self.assertIn(node.func.attr, OWN_METHODS + own, name)

    def test_names(self):
        for name, node in nodes_of_all():
            if isinstance(node, ast.Name):
                self.assertFalse(node.id.startswith("_"), (name, node.id))
                if hasattr(builtins, node.id):
                    self.assertIn(node.id, OWN_NAMES, name)
                    self.assertIsInstance(node.ctx, ast.Load, (name, node.id))
            if isinstance(node, ast.arg):
                self.assertFalse(node.arg.startswith("_") or hasattr(builtins, node.arg), (name, node.arg))


if __name__ == "__main__":
    unittest.main()
