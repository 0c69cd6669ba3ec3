"""The package keeps to the small part of Python that it is written in; what can be seen of it by its rows.

Where a rule lets several forms by, the tests hold the package to those that it uses, which are fewer.
"""

import ast
import builtins
import pathlib
import re
import unittest

PACKAGE = pathlib.Path(__file__).resolve().parent.parent / "ribboncast"
FILES = sorted(PACKAGE.rglob("*.py"))

OWN_NAMES = set(
    "len range enumerate zip min max sum abs sorted reversed int str bool bytes list tuple dict set isinstance ord "
    "repr any all divmod ValueError KeyError IndexError LookupError ZeroDivisionError StopIteration".split()
)

# These stand nowhere in a file, remarks and texts too.
BARRED_WORDS = (
    "type typing typing_extensions enum Enum IntEnum StrEnum Flag IntFlag Generic Protocol ABC ABCMeta namedtuple "
    "NamedTuple TypedDict TYPE_CHECKING abstractmethod"
).split()
BARRED_WITHIN = ["dataclass", "overload", "contextmanager"]

# These are no names, of whatever kind; as texts they may stand.
BARRED_NAMES = (
    "register mro elements open input version_info with_traceback add_note format format_map attrgetter breakpoint "
    "builtins compile copyright credits delattr dir eval exec exit gc getattr globals hasattr help id importlib "
    "license locals methodcaller os quit setattr super vars sys chr print"
).split()

OWN_METHODS = (
    "append clear copy count endswith extend find get index insert isalnum isalpha isdigit islower isspace isupper "
    "items join keys ljust lower lstrip partition pop remove replace reverse rfind rjust rpartition rsplit rstrip "
    "setdefault split splitlines startswith strip update upper values zfill bit_length sort"
).split()

TOP_NODES = (ast.Expr, ast.ImportFrom, ast.FunctionDef, ast.ClassDef, ast.Assign)

DEF_NODES = (
    ast.Assign, ast.AugAssign, ast.If, ast.While, ast.For, ast.Return, ast.Break, ast.Continue, ast.Pass, ast.Raise,
    ast.Try, ast.Expr,
)

BARRED_NODES = (
    ast.GeneratorExp, ast.NamedExpr, ast.Starred, ast.Div, ast.With, ast.Match, ast.Global, ast.Nonlocal, ast.Yield,
    ast.YieldFrom, ast.AsyncFunctionDef, ast.Await, ast.Import, ast.Lambda, ast.AnnAssign, ast.Delete, ast.SetComp,
    ast.Set,
)

WALKED = ["zip", "enumerate", "reversed", "range"]
WALKERS = ["list", "tuple", "dict", "sorted", "sum", "any", "all", "enumerate", "zip"]

KEYWORDS = {"sorted": ["key", "reverse"], "min": ["key", "default"], "max": ["key", "default"], "enumerate": ["start"]}


TREES = {path: ast.parse(path.read_text(encoding="utf-8")) for path in FILES}
NODES = [(path.name, node) for path in FILES for node in ast.walk(TREES[path])]
CLASSES = {node.name: node for name, node in NODES if isinstance(node, ast.ClassDef)}


def nodes_of(*kinds):
    return [(name, node) for name, node in NODES if isinstance(node, kinds)]


def nodes_with_parents():
    """A tuple (file, node, the node that it stands in) for each node but the files themselves."""
    return [(name, child, node) for name, node in NODES for child in ast.iter_child_nodes(node)]


def is_call_of(node, names):
    return isinstance(node, ast.Call) and isinstance(node.func, ast.Name) and node.func.id in names


def stands_under_an_error(name):
    while name in CLASSES:
        name = CLASSES[name].bases[0].id if CLASSES[name].bases else ""
    return name in ("ValueError", "Exception")


class Files(unittest.TestCase):
    def test_files(self):
        self.assertIn(PACKAGE / "__init__.py", FILES)
        for path in PACKAGE.iterdir():
            if path.name != "__pycache__":
                self.assertRegex(path.name, r"^([a-z][a-z0-9_]*|__init__|__main__)\.py$")

    def test_signs_and_lengths(self):
        for path in FILES:
            text = path.read_bytes().decode("ascii")
            self.assertRegex(text, r"\A[ -~\n]*\Z", path.name)
            rows = text.split("\n")
            self.assertLessEqual(len(rows), 401, path.name)
            self.assertLessEqual(max(len(row) for row in rows), 120, path.name)

    def test_words(self):
        for path in FILES:
            text = path.read_text(encoding="utf-8")
            for word in BARRED_WORDS:
                self.assertIsNone(re.search(rf"\b{word}\b", text), (path.name, word))
            for word in BARRED_WITHIN:
                self.assertNotIn(word, text, path.name)

    def test_the_top_of_a_file(self):
        for path in FILES:
            bound = []
            for at, node in enumerate(TREES[path].body):
                self.assertIsInstance(node, TOP_NODES, path.name)
                if isinstance(node, ast.Expr):
                    self.assertEqual((at, isinstance(node.value, ast.Constant)), (0, True), path.name)
                elif isinstance(node, ast.ImportFrom):
                    bound += [drawn.asname or drawn.name for drawn in node.names]
                elif isinstance(node, ast.Assign):
                    bound += [target.id for target in node.targets]
                    ast.literal_eval(node.value)
                else:
                    bound.append(node.name)
            self.assertEqual(len(bound), len(set(bound)), path.name)


class Imports(unittest.TestCase):
    def test_rows(self):
        for name, node in nodes_of(ast.ImportFrom):
            self.assertEqual(node.level, 0, name)
            self.assertRegex(node.module, r"^ribboncast\.[a-z_]+$", name)
            self.assertNotIn("*", [drawn.name for drawn in node.names], name)

    def test_names_are_drawn_from_the_file_that_defines_them(self):
        made = {}
        for path in FILES:
            body = TREES[path].body
            made[path.stem] = [node.name for node in body if isinstance(node, (ast.FunctionDef, ast.ClassDef))]
            made[path.stem] += [node.targets[0].id for node in body if isinstance(node, ast.Assign)]
        for name, node in nodes_of(ast.ImportFrom):
            for drawn in node.names:
                self.assertIn(drawn.name, made[node.module.split(".")[1]], name)
                self.assertIsNone(drawn.asname, name)

    def test_no_two_files_draw_from_one_another(self):
        drawn = {path.stem: [] for path in FILES}
        for path in FILES:
            for node in TREES[path].body:
                if isinstance(node, ast.ImportFrom):
                    drawn[path.stem].append(node.module.split(".")[1])
        # Files that draw from none that is left are taken away, until none is left.
        while drawn:
            free = [name for name, others in drawn.items() if not set(others) & set(drawn)]
            self.assertNotEqual(free, [], drawn)
            for name in free:
                del drawn[name]

    def test_nothing_is_called_like_an_import(self):
        for path in FILES:
            nodes = list(ast.walk(TREES[path]))
            drawn = [name.name for node in nodes if isinstance(node, ast.ImportFrom) for name in node.names]
            given = [node.id for node in nodes if isinstance(node, ast.Name) and isinstance(node.ctx, ast.Store)]
            given += [node.arg for node in nodes if isinstance(node, ast.arg)]
            self.assertEqual(set(drawn) & set(given), set(), path.name)
            read = [node.id for node in nodes if isinstance(node, ast.Name) and isinstance(node.ctx, ast.Load)]
            self.assertEqual(set(drawn) - set(read), set(), path.name)


class Names(unittest.TestCase):
    def test_names(self):
        for name, node in nodes_of(ast.Name):
            self.assertFalse(node.id.startswith("_"), (name, node.id))
            if hasattr(builtins, node.id):
                self.assertIn(node.id, OWN_NAMES, name)
                self.assertIsInstance(node.ctx, ast.Load, (name, node.id))
        for name, node in nodes_of(ast.arg):
            self.assertFalse(node.arg.startswith("_") or hasattr(builtins, node.arg), (name, node.arg))
        for name, node in nodes_of(ast.FunctionDef, ast.ClassDef):
            plain = not node.name.startswith("_") and not hasattr(builtins, node.name)
            self.assertTrue(plain or node.name == "__init__", (name, node.name))

    def test_names_that_are_not_used(self):
        for name, node in NODES:
            for field in ("id", "arg", "attr", "name"):
                self.assertNotIn(getattr(node, field, None), BARRED_NAMES, name)

    def test_methods(self):
        own = [node.name for name, node in nodes_of(ast.FunctionDef)]
        for name, node in nodes_of(ast.Call):
            if isinstance(node.func, ast.Attribute):
                self.assertIn(node.func.attr, OWN_METHODS + own, name)

    def test_a_method_is_called_where_it_stands(self):
        values = set()
        methods = set()
        for known in CLASSES.values():
            methods |= {node.name for node in known.body if isinstance(node, ast.FunctionDef)}
            for node in ast.walk(known):
                if isinstance(node, ast.Attribute) and isinstance(node.ctx, ast.Store):
                    self.assertEqual(node.value.id, "self")
                    values.add(node.attr)
        self.assertEqual(values & methods, set())
        for thing in ("", 1, [], {}, set(), b""):
            self.assertEqual([name for name in values | methods - {"__init__"} if hasattr(thing, name)], [])
        for name, node, parent in nodes_with_parents():
            if isinstance(node, ast.Attribute):
                called = isinstance(parent, ast.Call) and parent.func == node
                self.assertTrue(called or node.attr in values, (name, node.attr))


class Forms(unittest.TestCase):
    def test_forms(self):
        for name, node in NODES:
            self.assertNotIsInstance(node, BARRED_NODES, name)
            if isinstance(node, ast.Compare):
                for sign, right in zip(node.ops, node.comparators):
                    if isinstance(sign, (ast.Is, ast.IsNot)):
                        self.assertIn(getattr(right, "value", 0), (None, True, False), name)
            if isinstance(node, ast.Constant):
                self.assertNotIsInstance(node.value, (float, complex), name)
                if isinstance(node.value, str):
                    self.assertNotIn("%", node.value, name)
            if isinstance(node, (ast.For, ast.While)):
                self.assertEqual(node.orelse, [], name)
            if isinstance(node, ast.BinOp) and isinstance(node.op, ast.Pow):
                self.assertIn(getattr(node.right, "value", -1), range(65), name)
            if isinstance(node, ast.FormattedValue):
                self.assertIsNone(node.format_spec, name)
                self.assertEqual([part for part in ast.walk(node) if isinstance(part, ast.Constant)], [], name)

    def test_defs(self):
        for name, node in nodes_of(ast.FunctionDef):
            self.assertLessEqual(node.end_lineno - node.lineno + 1, 40, (name, node.name))
            self.assertEqual(node.decorator_list, [], (name, node.name))
            self.assertIsNone(node.returns, (name, node.name))
            taken = node.args
            self.assertEqual((taken.posonlyargs, taken.kwonlyargs, taken.defaults), ([], [], []), (name, node.name))
            self.assertEqual((taken.vararg, taken.kwarg), (None, None), (name, node.name))
            self.assertEqual([one.annotation for one in taken.args if one.annotation], [], (name, node.name))
            for part in ast.walk(node):
                if isinstance(part, ast.stmt) and part != node:
                    self.assertIsInstance(part, DEF_NODES, (name, node.name))

    def test_classes(self):
        for name, node in nodes_of(ast.ClassDef):
            self.assertEqual((node.decorator_list, node.keywords), ([], []), node.name)
            self.assertLessEqual(len(node.bases), 1, node.name)
            for at, part in enumerate(node.body):
                is_doc = at == 0 and isinstance(part, ast.Expr) and isinstance(part.value, ast.Constant)
                self.assertTrue(is_doc or isinstance(part, ast.FunctionDef), node.name)
        for name, node, parent in nodes_with_parents():
            if isinstance(node, ast.Name) and node.id in CLASSES:
                fair = (ast.Raise, ast.ExceptHandler, ast.ClassDef, ast.Tuple)
                called = isinstance(parent, ast.Call) and parent.func == node
                self.assertTrue(called or isinstance(parent, fair), (name, node.id))

    def test_errors(self):
        for name, node in nodes_of(ast.Raise):
            self.assertIsInstance(node.exc, ast.Call, name)
            self.assertTrue(stands_under_an_error(node.exc.func.id), name)
            self.assertEqual(node.exc.keywords, [], name)
            if node.cause is not None:
                self.assertIsNone(node.cause.value, name)
        for name, node in nodes_of(ast.ExceptHandler):
            kinds = node.type.elts if isinstance(node.type, ast.Tuple) else [node.type]
            self.assertNotEqual(kinds, [], name)
            for kind in kinds:
                self.assertIn(kind.id, CLASSES, name)
                self.assertTrue(stands_under_an_error(kind.id), (name, kind.id))
        for name, node in nodes_of(ast.Try):
            self.assertEqual(node.finalbody, [], name)

    def test_keywords(self):
        for name, node in nodes_of(ast.Call):
            known = KEYWORDS.get(getattr(node.func, "id", None), [])
            self.assertEqual([word.arg for word in node.keywords if word.arg not in known], [], name)

    def test_walked_on_the_spot(self):
        for name, node, parent in nodes_with_parents():
            is_view = isinstance(node, ast.Call) and getattr(node.func, "attr", None) in ("items", "keys", "values")
            if is_call_of(node, WALKED) or is_view:
                walked = isinstance(parent, (ast.For, ast.comprehension)) and parent.iter == node
                turned = is_call_of(parent, ["reversed"]) and is_call_of(node, ["range"])
                self.assertTrue(walked or turned or is_call_of(parent, WALKERS), (name, node.lineno))

    def test_sets(self):
        for name, node, parent in nodes_with_parents():
            if is_call_of(node, ["set", "frozenset"]):
                self.assertTrue(is_call_of(parent, ["sorted", "len"]), (name, node.lineno))
                self.assertEqual(parent.keywords, [], (name, node.lineno))

    def test_what_a_loop_walks_is_not_changed_in_it(self):
        for name, node in nodes_of(ast.For):
            walked = {part.id for part in ast.walk(node.iter) if isinstance(part, ast.Name)}
            for row in node.body:
                for part in ast.walk(row):
                    if isinstance(part, ast.Call) and isinstance(part.func, ast.Attribute):
                        if part.func.attr in ("append", "extend", "pop", "clear", "insert", "remove", "setdefault"):
                            self.assertNotIn(getattr(part.func.value, "id", None), walked, name)
                    if isinstance(part, ast.Subscript) and isinstance(part.ctx, ast.Store):
                        self.assertNotIn(getattr(part.value, "id", None), walked, name)


if __name__ == "__main__":
    unittest.main()
