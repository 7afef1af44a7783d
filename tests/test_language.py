"""Checks the package's own files against those rules of its language that can be seen from outside."""

import ast
import builtins
import pathlib
import re
import unittest

PACKAGE = pathlib.Path(__file__).resolve().parent.parent / "fourpoints"
OWN_NAMES = set(
    "len range enumerate zip min max sum abs sorted reversed int str bool list tuple dict set frozenset isinstance ord "
    "repr any all divmod Exception ValueError TypeError KeyError IndexError LookupError ZeroDivisionError "
    "ArithmeticError OverflowError RuntimeError NotImplementedError AttributeError StopIteration".split())
METHODS = set(
    "append clear copy count endswith extend find get index insert isalnum isalpha isdigit islower isspace isupper "
    "items join keys ljust lower lstrip partition pop remove replace reverse rfind rjust rpartition rsplit rstrip "
    "setdefault split splitlines startswith strip update upper values zfill bit_length".split())
WORDS_OUT = re.compile(
    r"\b(type|typing|typing_extensions|enum|Enum|IntEnum|StrEnum|Flag|IntFlag|Generic|Protocol|ABC|ABCMeta|namedtuple|"
    r"NamedTuple|TypedDict|TYPE_CHECKING|abstractmethod)\b|dataclass|overload|contextmanager")
NODES = (
    ast.Module, ast.FunctionDef, ast.ClassDef, ast.arguments, ast.arg, ast.ImportFrom, ast.alias,
    ast.Assign, ast.AugAssign, ast.If, ast.While, ast.For, ast.Return, ast.Break, ast.Continue, ast.Pass, ast.Raise,
    ast.Try, ast.ExceptHandler, ast.Expr, ast.Constant, ast.Name, ast.List, ast.Tuple, ast.Dict, ast.Set, ast.BinOp,
    ast.UnaryOp, ast.BoolOp, ast.Compare, ast.IfExp, ast.Call, ast.keyword, ast.Attribute, ast.Subscript, ast.Slice,
    ast.ListComp, ast.comprehension, ast.JoinedStr, ast.FormattedValue, ast.Lambda, ast.expr_context, ast.operator,
    ast.unaryop, ast.boolop, ast.cmpop)
PYTHONS_OWN = {name for kind in (str, int, list, tuple, dict, set, bytes) for name in dir(kind)}
TAKEN_VALUES = (PYTHONS_OWN | {"args"}) - set("count index title find get join lower upper split strip copy add".split())
METHODS_WITH_UNDERSCORES = ("__init__", "__eq__", "__repr__", "__str__", "__len__")
TAKEN_METHODS = PYTHONS_OWN - METHODS - set(METHODS_WITH_UNDERSCORES) - {"add", "discard"}


def files():
    return sorted(path for path in PACKAGE.rglob("*") if "__pycache__" not in path.parts and not path.is_dir())


def trees():
    return [(path, ast.parse(path.read_text("utf-8"))) for path in files()]


def nodes(kind):
    return [(f"{path.name}:{node.lineno}", node)
            for path, tree in trees() for node in ast.walk(tree) if isinstance(node, kind)]


def bound_names():
    found = []
    for path, tree in trees():
        for node in ast.walk(tree):
            if isinstance(node, ast.Name) and isinstance(node.ctx, ast.Store):
                found.append((path, node.id))
            elif isinstance(node, (ast.FunctionDef, ast.ClassDef)):
                found.append((path, node.name))
            elif isinstance(node, ast.arg):
                found.append((path, node.arg))
    return found


def drawn_from():
    drawn = {}
    for path, tree in trees():
        name = "fourpoints" if path.name == "__init__.py" else f"fourpoints.{path.stem}"
        drawn[name] = [node.module for node in ast.walk(tree) if isinstance(node, ast.ImportFrom)]
    return drawn


class Files(unittest.TestCase):
    def test_plain_files(self):
        self.assertTrue((PACKAGE / "__init__.py").is_file())
        for path in files():
            with self.subTest(path.name):
                self.assertRegex(path.name, r"\A[a-z0-9_]+\.py\Z")
                self.assertEqual(path.parent, PACKAGE)
                self.assertNotIn(path.stem, dir(builtins))
                self.assertFalse(path.stem.startswith("test"))

    def test_signs_sizes_and_words(self):
        for path in files():
            text = path.read_text("utf-8")
            with self.subTest(path.name):
                self.assertRegex(text, r"\A[ -~\n]*\Z")
                self.assertLessEqual(len(text.splitlines()), 400)
                self.assertLessEqual(max(len(line) for line in text.splitlines()), 120)
                self.assertIsNone(WORDS_OUT.search(text))
        for place, node in nodes(ast.FunctionDef):
            with self.subTest(place):
                self.assertLessEqual(node.end_lineno - node.lineno + 1, 40)


class Imports(unittest.TestCase):
    def test_each_name_from_the_file_that_defines_it(self):
        defined = {}
        for path, tree in trees():
            defined[f"fourpoints.{path.stem}"] = [
                node.name for node in tree.body if isinstance(node, (ast.FunctionDef, ast.ClassDef))] + [
                target.id for node in tree.body if isinstance(node, ast.Assign) for target in node.targets]
        for place, node in nodes(ast.ImportFrom):
            with self.subTest(place):
                self.assertEqual(node.level, 0)
                for alias in node.names:
                    self.assertIn(alias.name, defined[node.module])

    def test_no_two_files_draw_from_one_another(self):
        drawn = drawn_from()
        for name in drawn:
            reached, ahead = set(), list(drawn[name])
            while ahead:
                module = ahead.pop()
                if module not in reached:
                    reached.add(module)
                    ahead.extend(drawn[module])
            with self.subTest(name):
                self.assertNotIn(name, reached)
        self.assertEqual(drawn["fourpoints"], [])


class Forms(unittest.TestCase):
    def test_statements_and_expressions(self):
        for place, node in nodes((ast.stmt, ast.expr)):
            with self.subTest(place):
                self.assertIsInstance(node, NODES)
                if isinstance(node, ast.Assign):
                    self.assertEqual(len(node.targets), 1)
                if isinstance(node, (ast.For, ast.While, ast.Try)):
                    self.assertFalse(node.orelse and not isinstance(node, ast.Try))
                if isinstance(node, ast.Try):
                    self.assertEqual(node.finalbody, [])
                if isinstance(node, ast.ListComp):
                    self.assertEqual(len(node.generators), 1)
                    self.assertLessEqual(len(node.generators[0].ifs), 1)
                if isinstance(node, ast.FormattedValue):
                    self.assertIsInstance(node.value, ast.Name)
                    self.assertIsNone(node.format_spec)
                if isinstance(node, ast.Constant):
                    self.assertIsInstance(node.value, (int, str, bool, type(None)))
                    self.assertNotIn("%", str(node.value))

    def test_texts_by_themselves_stand_at_a_files_top_alone(self):
        for path, tree in trees():
            for node in ast.walk(tree):
                if isinstance(node, ast.Expr) and node is not tree.body[0]:
                    with self.subTest(f"{path.name}:{node.lineno}"):
                        self.assertIsInstance(node.value, ast.Call)

    def test_operators(self):
        for place, node in nodes((ast.BinOp, ast.AugAssign)):
            with self.subTest(place):
                self.assertNotIsInstance(node.op, (ast.Div, ast.MatMult))
                if isinstance(node.op, ast.Pow):
                    self.assertIsInstance(node.right, ast.Constant)
                    self.assertIn(node.right.value, range(65))
        for place, node in nodes(ast.Compare):
            for operator, right in zip(node.ops, node.comparators):
                if isinstance(operator, (ast.Is, ast.IsNot)):
                    with self.subTest(place):
                        self.assertIsInstance(right, ast.Constant)
                        self.assertIn(right.value, (None, True, False))

    def test_functions(self):
        for place, node in nodes(ast.FunctionDef):
            with self.subTest(place):
                self.assertEqual(node.decorator_list, [])
                self.assertIsNone(node.args.vararg)
                self.assertIsNone(node.args.kwarg)
                self.assertEqual(node.args.kwonlyargs + node.args.posonlyargs, [])
        for place, node in nodes(ast.ClassDef):
            with self.subTest(place):
                self.assertEqual(node.decorator_list, [])
                self.assertLessEqual(len(node.bases), 1)
                for inner in node.body:
                    self.assertIsInstance(inner, (ast.FunctionDef, ast.Pass))

    def test_names(self):
        for path, name in bound_names():
            with self.subTest(f"{path.name}: {name}"):
                if name not in METHODS_WITH_UNDERSCORES:
                    self.assertRegex(name, r"\A[A-Za-z][A-Za-z0-9_]*\Z")
        own = {name for place, name in bound_names()}
        for place, node in nodes(ast.Name):
            with self.subTest(f"{place}: {node.id}"):
                if isinstance(node.ctx, ast.Store):
                    self.assertNotIn(node.id, dir(builtins))
                elif node.id in dir(builtins):
                    self.assertIn(node.id, OWN_NAMES)
        for place, node in nodes(ast.arg):
            self.assertNotIn(node.arg, dir(builtins), place)
        for place, node in nodes(ast.Call):
            if isinstance(node.func, ast.Attribute):
                with self.subTest(f"{place}: {node.func.attr}"):
                    self.assertIn(node.func.attr, METHODS | own)

    def test_the_top_of_a_file_binds_each_name_once(self):
        for path, tree in trees():
            top = []
            for node in tree.body:
                if isinstance(node, ast.ImportFrom):
                    top.extend(alias.asname or alias.name for alias in node.names)
                elif isinstance(node, ast.Assign):
                    top.extend(target.id for target in node.targets)
                    with self.subTest(f"{path.name}:{node.lineno}"):
                        ast.literal_eval(node.value)
                elif isinstance(node, (ast.FunctionDef, ast.ClassDef)):
                    top.append(node.name)
            with self.subTest(path.name):
                self.assertEqual(len(top), len(set(top)))

    def test_no_local_is_called_like_a_class_or_an_import(self):
        for path, tree in trees():
            taken = {node.name for node in tree.body if isinstance(node, ast.ClassDef)} | {
                alias.name for node in tree.body if isinstance(node, ast.ImportFrom) for alias in node.names}
            for node in ast.walk(tree):
                name = node.arg if isinstance(node, ast.arg) else (
                    node.id if isinstance(node, ast.Name) and isinstance(node.ctx, ast.Store) else None)
                with self.subTest(f"{path.name}: {name}"):
                    self.assertNotIn(name, taken)


class Classes(unittest.TestCase):
    def test_methods_and_values(self):
        methods = [inner.name for place, node in nodes(ast.ClassDef) for inner in node.body
                   if isinstance(inner, ast.FunctionDef)]
        values = {node.attr for place, node in nodes(ast.Attribute) if isinstance(node.ctx, ast.Store)}
        self.assertEqual(values & set(methods), set())
        for name in values:
            with self.subTest(name):
                self.assertNotIn(name, TAKEN_VALUES)
        for name in methods:
            with self.subTest(name):
                self.assertNotIn(name, TAKEN_METHODS)
        for place, node in nodes(ast.ClassDef):
            with self.subTest(place):
                names = [inner.name for inner in node.body if isinstance(inner, ast.FunctionDef)]
                self.assertEqual(len(names), len(set(names)))
                self.assertIn(node.name, {inner.name for path, tree in trees() for inner in tree.body
                                          if isinstance(inner, ast.ClassDef)})

    def test_init_gives_nothing_back(self):
        for place, node in nodes(ast.FunctionDef):
            if node.name == "__init__":
                with self.subTest(place):
                    self.assertFalse([inner for inner in ast.walk(node)
                                      if isinstance(inner, ast.Return) and inner.value is not None])


if __name__ == "__main__":
    unittest.main()
