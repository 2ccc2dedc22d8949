"""Whether the package keeps to its small part of Python, as far as its files show it."""

import ast
import builtins
import pathlib
import re
import unittest

PACKAGE = pathlib.Path(__file__).resolve().parent.parent / "reason"
FILES = sorted(path for path in PACKAGE.rglob("*") if "__pycache__" not in path.parts)

OWN_NAMES = set("""len range enumerate zip min max sum abs sorted reversed int str bool list tuple dict set frozenset
    isinstance ord repr any all divmod Exception ValueError TypeError KeyError IndexError LookupError ZeroDivisionError
    ArithmeticError OverflowError RuntimeError NotImplementedError AttributeError StopIteration""".split())
METHODS = set("""append clear copy count endswith extend find get index insert isalnum isalpha isdigit islower isspace
    isupper items join keys ljust lower lstrip partition pop remove replace reverse rfind rjust rpartition rsplit rstrip
    setdefault split splitlines startswith strip update upper values zfill bit_length""".split())
DUNDERS = {"__init__", "__eq__", "__repr__", "__str__", "__len__"}
OUT_WORDS = set("""type typing typing_extensions enum Enum IntEnum StrEnum Flag IntFlag Generic Protocol ABC ABCMeta
    namedtuple NamedTuple TypedDict TYPE_CHECKING abstractmethod""".split())
OUT_NAMES = set("""register mro elements open input version_info with_traceback add_note attrgetter breakpoint builtins
    compile copyright credits delattr dir eval exec exit gc getattr globals hasattr help id importlib license locals
    methodcaller os quit setattr super type vars sys""".split())
NODES = set("""Module FunctionDef ClassDef Return Assign AugAssign For While If Raise Try ExceptHandler ImportFrom Expr
    Pass Break Continue BoolOp And Or BinOp Add Sub Mult FloorDiv Mod Pow LShift RShift BitOr BitXor BitAnd UnaryOp
    Invert Not UAdd USub Lambda IfExp Dict Set ListComp comprehension Compare Eq NotEq Lt LtE Gt GtE Is IsNot In NotIn
    Call keyword JoinedStr FormattedValue Constant Attribute Subscript Slice Name List Tuple Load Store arguments arg
    alias""".split())
TOP = (ast.ImportFrom, ast.FunctionDef, ast.ClassDef, ast.Assign)


def is_docstring(node):
    return isinstance(node, ast.Expr) and isinstance(node.value, ast.Constant) and isinstance(node.value.value, str)


def drawn_from(tree):
    return {node.module for node in ast.walk(tree) if isinstance(node, ast.ImportFrom)}


class LanguageTest(unittest.TestCase):
    def setUp(self):
        self.texts = {path: path.read_text(encoding="utf-8") for path in FILES if path.is_file()}
        self.trees = {path: ast.parse(text) for path, text in self.texts.items()}
        self.own_methods = {node.name for tree in self.trees.values() for holder in ast.walk(tree)
                            if isinstance(holder, ast.ClassDef) for node in holder.body
                            if isinstance(node, ast.FunctionDef)}

    def nodes(self, *kinds):
        for path, tree in self.trees.items():
            for node in ast.walk(tree):
                if isinstance(node, kinds):
                    yield f"{path.name}:{getattr(node, 'lineno', 0)}", node

    def test_files(self):
        self.assertIn(PACKAGE / "__init__.py", self.texts)
        for path in FILES:
            self.assertRegex(path.name, r"^(__init__|[a-z][a-z0-9_]*)\.py$")
            self.assertNotIn(path.stem, dir(builtins))

    def test_sizes_and_signs(self):
        for path, text in self.texts.items():
            self.assertIsNone(re.search(r"[^ -~\n]", text), path)
            self.assertLessEqual(len(text.splitlines()), 400, path)
            self.assertLessEqual(max(len(row) for row in text.splitlines()), 120, path)
        for place, node in self.nodes(ast.FunctionDef):
            self.assertLessEqual(node.end_lineno - node.lineno + 1, 40, place)

    def test_words(self):
        for path, text in self.texts.items():
            self.assertFalse(OUT_WORDS & set(re.findall(r"\w+", text)), path)
            self.assertIsNone(re.search("dataclass|overload|contextmanager", text), path)

    def test_nodes(self):
        for place, node in self.nodes(ast.AST):
            self.assertIn(type(node).__name__, NODES, place)

    def test_tops(self):
        for path, tree in self.trees.items():
            bound = []
            for node in tree.body:
                self.assertTrue(isinstance(node, TOP) or is_docstring(node), (path, node.lineno))
                bound += [node.name] if isinstance(node, (ast.FunctionDef, ast.ClassDef)) else []
                bound += [target.id for target in node.targets] if isinstance(node, ast.Assign) else []
                bound += [alias.name for alias in node.names] if isinstance(node, ast.ImportFrom) else []
            self.assertEqual(len(bound), len(set(bound)), path)

    def test_imports(self):
        for place, node in self.nodes(ast.ImportFrom):
            self.assertEqual(node.level, 0, place)
            self.assertTrue(node.module.startswith("reason."), place)
            source = self.trees[PACKAGE / (node.module.split(".")[1] + ".py")]
            defined = {top.name for top in source.body if isinstance(top, (ast.FunctionDef, ast.ClassDef))}
            defined |= {top.targets[0].id for top in source.body if isinstance(top, ast.Assign)}
            for alias in node.names:
                self.assertIn(alias.name, defined, place)
                self.assertIsNone(alias.asname, place)

    def test_no_ring_of_imports(self):
        left = {"reason." + path.stem: drawn_from(tree) for path, tree in self.trees.items()}
        while left:
            free = [name for name, others in left.items() if not others & set(left)]
            self.assertNotEqual(free, [], left)
            left = {name: others for name, others in left.items() if name not in free}

    def test_functions_and_classes(self):
        for place, node in self.nodes(ast.FunctionDef, ast.Lambda):
            self.assertFalse(node.args.vararg or node.args.kwarg, place)
            self.assertFalse(node.args.kwonlyargs or node.args.posonlyargs, place)
            self.assertFalse([arg for arg in node.args.args if arg.annotation], place)
            self.assertFalse(getattr(node, "decorator_list", []) or getattr(node, "returns", None), place)
        for place, node in self.nodes(ast.ClassDef):
            self.assertLessEqual(len(node.bases), 1, place)
            self.assertFalse(node.decorator_list or node.keywords, place)
            for part in node.body:
                self.assertTrue(isinstance(part, ast.FunctionDef) or is_docstring(part), place)

    def test_statements(self):
        for place, node in self.nodes(ast.Assign):
            self.assertEqual(len(node.targets), 1, place)
        for place, node in self.nodes(ast.For, ast.While):
            self.assertEqual(node.orelse, [], place)
        for place, node in self.nodes(ast.Try):
            self.assertEqual(node.finalbody, [], place)
        for place, node in self.nodes(ast.comprehension):
            self.assertLessEqual(len(node.ifs), 1, place)
        for place, node in self.nodes(ast.ListComp):
            self.assertEqual(len(node.generators), 1, place)
        for place, node in self.nodes(ast.Expr):
            self.assertTrue(isinstance(node.value, ast.Call) or is_docstring(node), place)

    def test_values(self):
        for place, node in self.nodes(ast.Constant):
            self.assertIn(type(node.value), (int, str, bool, type(None)), place)
            if isinstance(node.value, str):
                self.assertNotIn("%", node.value, place)
        for place, node in self.nodes(ast.Compare):
            for operator, right in zip(node.ops, node.comparators):
                if isinstance(operator, (ast.Is, ast.IsNot)):
                    self.assertTrue(isinstance(right, ast.Constant) and right.value in (None, True, False), place)
        for place, node in self.nodes(ast.FormattedValue):
            self.assertIsInstance(node.value, ast.Name, place)
            self.assertIsNone(node.format_spec, place)

    def test_names(self):
        for place, node in self.nodes(ast.Name, ast.arg, ast.FunctionDef, ast.ClassDef, ast.Attribute):
            name = next(getattr(node, key) for key in ("id", "arg", "name", "attr") if hasattr(node, key))
            self.assertTrue(not name.startswith("_") or name in DUNDERS, (place, name))
            if not isinstance(node, ast.Attribute):
                self.assertNotIn(name, OUT_NAMES, place)
            own = isinstance(node, ast.Name) and isinstance(node.ctx, ast.Load)
            if name in dir(builtins) and name not in DUNDERS and not isinstance(node, ast.Attribute):
                self.assertTrue(own and name in OWN_NAMES, (place, name))

    def test_no_local_is_called_like_an_import_or_a_class(self):
        for path, tree in self.trees.items():
            taken = {alias.name for node in tree.body if isinstance(node, ast.ImportFrom) for alias in node.names}
            taken |= {node.name for node in tree.body if isinstance(node, ast.ClassDef)}
            for node in ast.walk(tree):
                name = node.arg if isinstance(node, ast.arg) else ""
                name = node.id if isinstance(node, ast.Name) and isinstance(node.ctx, ast.Store) else name
                self.assertNotIn(name, taken, path)

    def test_methods(self):
        for place, node in self.nodes(ast.Call):
            if isinstance(node.func, ast.Attribute):
                self.assertIn(node.func.attr, METHODS | self.own_methods, place)
        given = {node.attr for place, node in self.nodes(ast.Attribute) if isinstance(node.ctx, ast.Store)}
        self.assertFalse(given & self.own_methods)

    def test_what_is_walked_is_walked_at_once(self):
        takers = ("list", "tuple", "dict", "sorted", "sum", "any", "all", "enumerate", "zip", "min", "max")
        for path, tree in self.trees.items():
            fine = [id(node.iter) for node in ast.walk(tree) if isinstance(node, (ast.For, ast.comprehension))]
            for node in ast.walk(tree):
                if isinstance(node, ast.Call) and isinstance(node.func, ast.Name) and node.func.id in takers:
                    fine += [id(argument) for argument in node.args[:1]]
            for node in ast.walk(tree):
                name = getattr(node.func, "id", getattr(node.func, "attr", "")) if isinstance(node, ast.Call) else ""
                if name in ("zip", "enumerate", "reversed", "range", "items", "keys", "values"):
                    self.assertIn(id(node), fine, (path, node.lineno))

    def test_sets_stand_where_they_may(self):
        for path, tree in self.trees.items():
            inside = [id(node.args[0]) for node in ast.walk(tree) if isinstance(node, ast.Call) and node.args
                      and isinstance(node.func, ast.Name) and node.func.id in ("sorted", "len") and not node.keywords]
            for node in ast.walk(tree):
                if isinstance(node, ast.Call) and isinstance(node.func, ast.Name) and node.func.id == "set":
                    self.assertIn(id(node), inside, (path, node.lineno))


if __name__ == "__main__":
    unittest.main()
