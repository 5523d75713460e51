"""Holds the package against the narrow part of Python it keeps to: not every rule, but all that its code may meet."""

import ast
import builtins
import pathlib
import re
import unittest

PACKAGE = pathlib.Path(__file__).resolve().parent.parent / "hurryprice"
FILES = sorted(PACKAGE.rglob("*.py"))
SOURCES = {path.stem: path.read_text(encoding="utf-8") for path in FILES}
TREES = {stem: ast.parse(source) for stem, source in SOURCES.items()}

OWN_NAMES = set(
    "len range enumerate zip min max sum abs sorted reversed int str bool bytes list tuple dict set isinstance "
    "ord repr any all divmod Exception ValueError TypeError KeyError IndexError LookupError ZeroDivisionError "
    "ArithmeticError OverflowError RuntimeError NotImplementedError AttributeError StopIteration".split()
)
OWN_METHODS = set(
    "append clear copy count endswith extend find get index insert isalnum isalpha isdigit islower isspace isupper "
    "items join keys ljust lower lstrip partition pop remove replace reverse rfind rjust rpartition rsplit rstrip "
    "setdefault split splitlines startswith strip update upper values zfill bit_length".split()
)
DUNDER_METHODS = {"__init__", "__eq__", "__repr__", "__str__", "__len__"}
WORDS_OUT = re.compile(
    r"\b(type|typing|typing_extensions|enum|Enum|IntEnum|StrEnum|Flag|IntFlag|Generic|Protocol|ABC|ABCMeta|namedtuple|"
    r"NamedTuple|TypedDict|TYPE_CHECKING|abstractmethod)\b|dataclass|overload|contextmanager"
)
NAMES_OUT = set(
    "register mro elements open input version_info with_traceback add_note attrgetter breakpoint builtins compile "
    "copyright credits delattr dir eval exec exit gc getattr globals hasattr help id importlib license locals "
    "methodcaller os quit setattr super type vars sys __name__ chr frozenset print".split()
)
NODES_OUT = (
    ast.With, ast.Match, ast.Global, ast.Nonlocal, ast.Yield, ast.YieldFrom, ast.Await, ast.AsyncFunctionDef,
    ast.AsyncFor, ast.AsyncWith, ast.GeneratorExp, ast.NamedExpr, ast.Div, ast.MatMult, ast.Import, ast.AnnAssign,
)
WALKED = {"zip", "enumerate", "reversed", "range"}
WALKERS = {"list", "tuple", "dict", "sorted", "sum", "any", "all", "enumerate", "zip", "min", "max"}


def nodes_of(tree, kinds):
    return [node for node in ast.walk(tree) if isinstance(node, kinds)]


def top_names(tree):
    """The names that a file's top binds, each as often as it is bound."""
    found = []
    for node in tree.body:
        if isinstance(node, ast.ImportFrom):
            found.extend(alias.asname or alias.name for alias in node.names)
        elif isinstance(node, (ast.FunctionDef, ast.ClassDef)):
            found.append(node.name)
        elif isinstance(node, ast.Assign):
            found.extend(target.id for target in node.targets)
    return found


def is_plain(node):
    """Tells whether a top's value is plain: numbers, texts, True, False, None, and tuples, lists, dicts of these."""
    if isinstance(node, ast.Constant):
        return isinstance(node.value, (int, str, bytes)) or node.value is None
    if isinstance(node, (ast.Tuple, ast.List)):
        return all(is_plain(one) for one in node.elts)
    if isinstance(node, ast.Dict):
        return all(is_plain(one) for one in node.keys + node.values)
    return isinstance(node, (ast.Name, ast.UnaryOp))


def given_names(tree):
    """Names that parameters and locals bear."""
    found = [node.arg for node in nodes_of(tree, ast.arg)]
    for define in nodes_of(tree, ast.FunctionDef):
        found.extend(node.id for node in nodes_of(define, ast.Name) if isinstance(node.ctx, ast.Store))
    return found


class TestLanguage(unittest.TestCase):
    def test_files(self):
        others = [path for path in PACKAGE.rglob("*") if path.suffix != ".py" and "__pycache__" not in str(path)]
        self.assertEqual(others, [])
        self.assertLessEqual(len(FILES), 100)
        for stem in SOURCES:
            self.assertRegex(stem, r"^(__init__|__main__|[a-z][a-z0-9_]*)$")
            self.assertFalse(hasattr(builtins, stem) and not stem.startswith("__"))

    def test_signs_and_sizes(self):
        for stem, tree in TREES.items():
            with self.subTest(file=stem):
                self.assertRegex(SOURCES[stem], r"^[\n -~]*$")
                rows = SOURCES[stem].split("\n")
                self.assertLessEqual(len(rows), 401)
                self.assertLessEqual(max(len(row) for row in rows), 120)
                for define in nodes_of(tree, (ast.FunctionDef, ast.Lambda)):
                    self.assertLessEqual(define.end_lineno - define.lineno + 1, 40)

    def test_words_that_stand_nowhere(self):
        for stem, tree in TREES.items():
            with self.subTest(file=stem):
                self.assertIsNone(WORDS_OUT.search(SOURCES[stem]))
                for node in nodes_of(tree, ast.Constant):
                    if isinstance(node.value, str):
                        self.assertNotIn("%", node.value)
                    self.assertNotIsInstance(node.value, (float, complex))

    def test_tops(self):
        for stem, tree in TREES.items():
            with self.subTest(file=stem):
                names = top_names(tree)
                self.assertEqual(len(names), len(set(names)))
                for node in tree.body[1:]:
                    self.assertIsInstance(node, (ast.ImportFrom, ast.FunctionDef, ast.ClassDef, ast.Assign))
                    if isinstance(node, ast.Assign):
                        self.assertTrue(is_plain(node.value))
                self.assertIsNotNone(ast.get_docstring(tree))

    def test_imports(self):
        drawn = {}
        for stem, tree in TREES.items():
            with self.subTest(file=stem):
                rows = nodes_of(tree, ast.ImportFrom)
                self.assertEqual(rows, [node for node in tree.body if isinstance(node, ast.ImportFrom)])
                for row in rows:
                    self.assertRegex(row.module, r"^hurryprice\.[a-z_]+$")
                    self.assertEqual(row.level, 0)
                    other = row.module.split(".")[1]
                    defined = set(top_names(TREES[other])) - {
                        alias.name for node in nodes_of(TREES[other], ast.ImportFrom) for alias in node.names}
                    for alias in row.names:
                        self.assertIn(alias.name, defined)
                        self.assertIsNone(alias.asname)
                drawn[stem] = {row.module.split(".")[1] for row in rows}
        while drawn:
            free = [stem for stem, others in drawn.items() if not others & set(drawn)]
            self.assertTrue(free, "files draw from one another")
            for stem in free:
                del drawn[stem]

    def test_no_import_is_idle(self):
        for stem, tree in TREES.items():
            with self.subTest(file=stem):
                asked = {node.id for node in nodes_of(tree, ast.Name)}
                for row in nodes_of(tree, ast.ImportFrom):
                    self.assertEqual([alias.name for alias in row.names if alias.name not in asked], [])

    def test_nodes(self):
        for stem, tree in TREES.items():
            with self.subTest(file=stem):
                self.assertEqual([ast.dump(node) for node in nodes_of(tree, NODES_OUT)], [])
                for loop in nodes_of(tree, (ast.For, ast.While)):
                    self.assertEqual(loop.orelse, [])
                for star in nodes_of(tree, ast.Starred):
                    self.assertIsInstance(star.ctx, ast.Store)
                for power in nodes_of(tree, ast.Pow):
                    self.fail("a power")
                for test in nodes_of(tree, ast.Compare):
                    sides = [test.left] + test.comparators
                    for at, sign in enumerate(test.ops):
                        if isinstance(sign, (ast.Is, ast.IsNot)):
                            self.assertTrue([one for one in sides[at:at + 2] if isinstance(one, ast.Constant)])

    def test_defs(self):
        for stem, tree in TREES.items():
            with self.subTest(file=stem):
                for define in nodes_of(tree, ast.FunctionDef):
                    self.assertEqual(define.decorator_list, [])
                    self.assertIsNone(define.returns)
                    self.assertIsNone(define.args.vararg)
                    self.assertIsNone(define.args.kwarg)
                    self.assertEqual(define.args.posonlyargs, [])
                    for default in define.args.defaults + [one for one in define.args.kw_defaults if one is not None]:
                        self.assertTrue(is_plain(default))
                    if define.name != "__init__":
                        self.assertIsNotNone(ast.get_docstring(define), define.name)

    def test_names(self):
        for stem, tree in TREES.items():
            with self.subTest(file=stem):
                tops = set(top_names(tree))
                for name in given_names(tree):
                    self.assertRegex(name, r"^[A-Za-z][A-Za-z0-9_]*$")
                    self.assertNotIn(name, tops)
                    self.assertFalse(hasattr(builtins, name), name)
                    self.assertNotIn(name, NAMES_OUT)
                for node in nodes_of(tree, ast.Name):
                    if hasattr(builtins, node.id):
                        self.assertIn(node.id, OWN_NAMES)
                    self.assertNotIn(node.id, NAMES_OUT)

    def test_sets_are_not_used(self):
        for stem, tree in TREES.items():
            with self.subTest(file=stem):
                asked = [node.id for node in nodes_of(tree, ast.Name) if node.id == "set"]
                self.assertEqual(asked + nodes_of(tree, (ast.Set, ast.SetComp)), [])

    def test_classes(self):
        for stem, tree in TREES.items():
            with self.subTest(file=stem):
                for one in nodes_of(tree, ast.ClassDef):
                    self.assertIn(one, tree.body)
                    self.assertEqual((one.decorator_list, one.keywords), ([], []))
                    self.assertLessEqual(len(one.bases), 1)
                    for node in one.body[1:]:
                        self.assertIsInstance(node, ast.FunctionDef)
                    for node in nodes_of(one, ast.FunctionDef):
                        self.assertTrue(node.name in DUNDER_METHODS or not node.name.startswith("_"))

    def test_methods_and_values(self):
        methods, values = set(), set()
        for tree in TREES.values():
            for one in nodes_of(tree, ast.ClassDef):
                methods |= {node.name for node in one.body if isinstance(node, ast.FunctionDef)}
            values |= {node.attr for node in nodes_of(tree, ast.Attribute) if isinstance(node.ctx, ast.Store)}
        self.assertEqual(methods & values, set())
        for stem, tree in TREES.items():
            with self.subTest(file=stem):
                called = [node.func for node in nodes_of(tree, ast.Call)]
                for node in nodes_of(tree, ast.Attribute):
                    self.assertIn(node.attr, OWN_METHODS | methods if node in called else values)

    def test_calls(self):
        for stem, tree in TREES.items():
            with self.subTest(file=stem):
                for call in nodes_of(tree, ast.Call):
                    name = call.func.id if isinstance(call.func, ast.Name) else None
                    if name == "isinstance":
                        kind = call.args[1]
                        self.assertTrue(all(isinstance(one, ast.Name) for one in getattr(kind, "elts", [kind])))
                    if name in WALKED:
                        self.assertTrue(self.is_walked(tree, call), ast.dump(call))

    def is_walked(self, tree, call):
        loops = [node.iter for node in nodes_of(tree, (ast.For, ast.comprehension))]
        taken = [node.args[0] for node in nodes_of(tree, ast.Call)
                 if isinstance(node.func, ast.Name) and node.func.id in WALKERS and node.args]
        return call in loops or call in taken

    def test_errors(self):
        for stem, tree in TREES.items():
            with self.subTest(file=stem):
                for row in nodes_of(tree, ast.Raise):
                    if row.exc is not None:
                        self.assertIsInstance(row.exc, ast.Call)
                        self.assertIsInstance(row.exc.func, ast.Name)
                for handler in nodes_of(tree, ast.ExceptHandler):
                    for kind in getattr(handler.type, "elts", [handler.type]):
                        self.assertIsInstance(kind, ast.Name)
                        self.assertFalse(hasattr(builtins, kind.id) and kind.id != "KeyError")


if __name__ == "__main__":
    unittest.main()
