"""The package's files keep to the small part of Python: as far as a look at the written code can tell."""

import ast
import builtins
import pathlib
import re
import unittest

PACKAGE = pathlib.Path(__file__).resolve().parent.parent / "slidewires"
NODES = set(
    "Module Import ImportFrom alias FunctionDef arguments arg Return ClassDef Assign Name Store Load Tuple List Dict"
    " Set Constant If While For Break Continue Pass Raise Try ExceptHandler Expr Call keyword Attribute Subscript Slice"
    " BinOp Add Sub Mult FloorDiv Mod Pow BitAnd BitOr BitXor LShift RShift UnaryOp USub UAdd Not Invert BoolOp And Or"
    " Compare Eq NotEq Lt LtE Gt GtE In NotIn Is IsNot IfExp ListComp comprehension JoinedStr FormattedValue Lambda"
    " AugAssign".split()
)
OWN_NAMES = set(
    "len range enumerate zip min max sum abs sorted reversed int str bool list tuple dict set frozenset isinstance ord"
    " repr any all divmod Exception ValueError TypeError KeyError IndexError LookupError ZeroDivisionError"
    " ArithmeticError OverflowError RuntimeError NotImplementedError AttributeError StopIteration".split()
)
METHODS = set(
    "append clear copy count endswith extend find get index insert isalnum isalpha isdigit islower isspace isupper"
    " items join keys ljust lower lstrip partition pop remove replace reverse rfind rjust rpartition rsplit rstrip"
    " setdefault split splitlines startswith strip update upper values zfill bit_length add discard".split()
)
PYTHON_HAS = set().union(*(dir(kind) for kind in (str, int, list, dict, set, bytes, tuple)))
SPECIAL = {"__init__", "__eq__", "__repr__", "__str__", "__len__"}
NO_WORDS = re.compile(
    r"\b(type|typing|typing_extensions|enum|Enum|IntEnum|StrEnum|Flag|IntFlag|Generic|Protocol|ABC|ABCMeta|namedtuple"
    r"|NamedTuple|TypedDict|TYPE_CHECKING|abstractmethod)\b|dataclass|overload|contextmanager"
)
NO_NAMES = set(
    "register mro elements open input version_info with_traceback add_note attrgetter breakpoint builtins compile"
    " copyright credits delattr dir eval exec exit gc getattr globals hasattr help id importlib license locals"
    " methodcaller os quit setattr super type vars sys __name__".split()
)
WALKED = {"zip", "enumerate", "reversed", "range", "items", "keys", "values"}
WALKERS = {"list", "tuple", "dict", "sorted", "sum", "any", "all", "enumerate", "zip", "min", "max"}
FILES = sorted(PACKAGE.glob("*.py"))


def called(node):
    if isinstance(node, ast.Call):
        return node.func.id if isinstance(node.func, ast.Name) else getattr(node.func, "attr", None)
    return None


class Language(unittest.TestCase):
    def trees(self):
        for file in FILES:
            tree = ast.parse(file.read_text(encoding="ascii"))
            for node in ast.walk(tree):
                for child in ast.iter_child_nodes(node):
                    child.above = node
            yield file, tree

    def nodes(self):
        for file, tree in self.trees():
            for node in ast.walk(tree):
                yield f"{file.name}:{getattr(node, 'lineno', 0)}", node

    def test_files(self):
        self.assertTrue(FILES)
        for file in PACKAGE.iterdir():
            if file.name != "__pycache__":
                self.assertRegex(file.name, r"^([a-z][a-z0-9_]*|__init__|__main__)\.py$")
                self.assertFalse(file.stem.startswith("test") or file.stem in dir(builtins) or file.stem in NO_NAMES)

    def test_signs_sizes_and_words(self):
        for file in FILES:
            text = file.read_bytes().decode("ascii")
            self.assertIsNone(re.search(r"[^ -~\n]", text), file.name)
            self.assertIsNone(NO_WORDS.search(text), file.name)
            rows = text.split("\n")
            self.assertLessEqual(len(rows), 400)
            self.assertLessEqual(max(len(row) for row in rows), 120)

    def test_top_and_imports(self):
        drawn = {}
        for file, tree in self.trees():
            drawn[file.stem] = []
            self.assertIsInstance(tree.body[0], ast.Expr)
            bound = []
            for node in tree.body[1:]:
                self.assertIsInstance(node, (ast.ImportFrom, ast.FunctionDef, ast.ClassDef, ast.Assign), file.name)
                if isinstance(node, ast.ImportFrom):
                    self.assertEqual(node.level, 0)
                    folder, _, stem = node.module.partition(".")
                    self.assertEqual(folder, "slidewires")
                    drawn[file.stem].append(stem)
                    for alias in node.names:
                        bound.append(alias.asname or alias.name)
                        self.assertIn(alias.name, self.defined(stem), file.name)
                elif isinstance(node, ast.Assign):
                    ast.literal_eval(node.value)
                    bound.append(node.targets[0].id)
                else:
                    bound.append(node.name)
            self.assertEqual(len(bound), len(set(bound)), file.name)
        while drawn:
            free = [stem for stem in drawn if not any(other in drawn for other in drawn[stem])]
            self.assertTrue(free, f"files draw from one another: {sorted(drawn)}")
            for stem in free:
                del drawn[stem]

    def defined(self, stem):
        tree = ast.parse((PACKAGE / f"{stem}.py").read_text(encoding="ascii"))
        found = [node.name for node in tree.body if isinstance(node, (ast.FunctionDef, ast.ClassDef))]
        return found + [node.targets[0].id for node in tree.body if isinstance(node, ast.Assign)]

    def test_forms(self):
        for where, node in self.nodes():
            self.assertIn(type(node).__name__, NODES, where)
            if isinstance(node, ast.Assign):
                self.assertEqual(len(node.targets), 1, where)
                self.assertNotIsInstance(node.targets[0], (ast.Tuple, ast.List), where)
            if isinstance(node, ast.Constant):
                self.assertIn(type(node.value), (int, str, bool, type(None)), where)
                self.assertNotIn("%", str(node.value), where)
            if isinstance(node, (ast.For, ast.While)):
                self.assertEqual(node.orelse, [], where)
            if isinstance(node, ast.Compare) and any(isinstance(op, (ast.Is, ast.IsNot)) for op in node.ops):
                self.assertIn(node.comparators[-1].value, (None, True, False), where)
            if isinstance(node, ast.ListComp):
                self.assertEqual(len(node.generators), 1, where)
                self.assertLessEqual(len(node.generators[0].ifs), 1, where)
            if isinstance(node, ast.FormattedValue):
                self.assertIsInstance(node.value, ast.Name, where)
                self.assertIsNone(node.format_spec, where)
            if isinstance(node, ast.Expr) and not isinstance(node.above, ast.Module):
                self.assertIsInstance(node.value, ast.Call, where)
            if isinstance(node, ast.Set) or called(node) in ("set", "frozenset"):
                above = node.above
                asked = isinstance(above, (ast.Compare, ast.BinOp))
                self.assertTrue(asked or called(above) in ("len", "sorted"), where)

    def test_functions_and_classes(self):
        for where, node in self.nodes():
            if isinstance(node, ast.FunctionDef):
                self.assertLessEqual(node.end_lineno - node.lineno + 1, 40, where)
                self.assertEqual((node.decorator_list, node.returns), ([], None), where)
                self.assertFalse(node.args.vararg or node.args.kwarg or node.args.kwonlyargs or node.args.posonlyargs)
                if node.name.startswith("_"):
                    self.assertIn(node.name, SPECIAL, where)
            if isinstance(node, ast.ClassDef):
                self.assertIsInstance(node.above, ast.Module, where)
                self.assertLessEqual(len(node.bases), 1, where)
                for part in node.body:
                    self.assertIsInstance(part, (ast.FunctionDef, ast.Pass), where)

    def test_names(self):
        python_own = set(dir(builtins))
        for file, tree in self.trees():
            tops = {a.asname or a.name for n in tree.body if isinstance(n, ast.ImportFrom) for a in n.names}
            tops |= {n.name for n in tree.body if isinstance(n, (ast.FunctionDef, ast.ClassDef))}
            for node in ast.walk(tree):
                where = f"{file.name}:{getattr(node, 'lineno', 0)}"
                if isinstance(node, ast.Name):
                    self.assertNotIn(node.id, NO_NAMES, where)
                    self.assertFalse(node.id.startswith("_"), where)
                    if isinstance(node.ctx, ast.Store):
                        self.assertNotIn(node.id, python_own | tops, where)
                    else:
                        self.assertFalse(node.id in python_own - OWN_NAMES, where)
                if isinstance(node, ast.arg):
                    self.assertNotIn(node.arg, python_own | tops, where)
                    self.assertFalse(node.arg.startswith("_"), where)
                if isinstance(node, ast.Attribute) and node.attr not in SPECIAL:
                    self.assertFalse(node.attr.startswith("_") or node.attr in NO_NAMES, where)
                    if node.attr in PYTHON_HAS:
                        self.assertIn(node.attr, METHODS, where)
                        self.assertIsInstance(node.above, ast.Call, where)

    def test_walked_at_once(self):
        for where, node in self.nodes():
            if called(node) in WALKED:
                above = node.above
                walked = isinstance(above, (ast.For, ast.comprehension)) and above.iter is node
                self.assertTrue(walked or called(above) in WALKERS | {"join"}, where)
                self.assertFalse(called(above) == "reversed", where)

    def test_methods_and_values_are_unlike(self):
        methods, values = set(), set()
        for _, node in self.nodes():
            if isinstance(node, ast.FunctionDef) and isinstance(node.above, ast.ClassDef):
                methods.add(node.name)
            if isinstance(node, ast.Attribute) and isinstance(node.ctx, ast.Store):
                values.add(node.attr)
        self.assertEqual(methods & values, set())
