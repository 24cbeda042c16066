"""The package keeps to its part of Python: those rules of LANGUAGE.md that a short walk over the code can see."""

import ast
import builtins
import pathlib
import re
import unittest

PACKAGE = pathlib.Path(__file__).resolve().parent.parent / "moot"
FILES = sorted(path for path in PACKAGE.rglob("*") if path.is_file() and "__pycache__" not in path.parts)

STATEMENTS = (
    ast.Assign, ast.AugAssign, ast.If, ast.While, ast.For, ast.Return, ast.Break, ast.Continue, ast.Pass, ast.Raise,
    ast.Try, ast.Expr, ast.FunctionDef, ast.ClassDef, ast.ImportFrom,
)
EXPRESSIONS = (
    ast.Constant, ast.List, ast.Tuple, ast.Dict, ast.Set, ast.BinOp, ast.UnaryOp, ast.BoolOp, ast.Compare, ast.IfExp,
    ast.Call, ast.Attribute, ast.Subscript, ast.Slice, ast.ListComp, ast.JoinedStr, ast.FormattedValue, ast.Name,
    ast.Lambda,
)
ALLOWED_BUILTINS = set(
    "len range enumerate zip min max sum abs sorted reversed int str bool list tuple dict set frozenset isinstance ord"
    " repr any all divmod Exception ValueError TypeError KeyError IndexError LookupError ZeroDivisionError"
    " ArithmeticError OverflowError RuntimeError NotImplementedError AttributeError StopIteration".split()
)
ALLOWED_METHODS = set(
    "append clear copy count endswith extend find get index insert isalnum isalpha isdigit islower isspace isupper"
    " items join keys ljust lower lstrip partition pop remove replace reverse rfind rjust rpartition rsplit rstrip"
    " setdefault split splitlines startswith strip update upper values zfill bit_length".split()
)
SPECIAL_METHODS = {"__init__", "__eq__", "__repr__", "__str__", "__len__"}
BANNED_WORDS = re.compile(
    r"\b(type|typing|typing_extensions|enum|Enum|IntEnum|StrEnum|Flag|IntFlag|Generic|Protocol|ABC|ABCMeta|namedtuple"
    r"|NamedTuple|TypedDict|TYPE_CHECKING|abstractmethod)\b|dataclass|overload|contextmanager"
)
BANNED_NAMES = set("register mro elements open input version_info with_traceback add_note format format_map".split())


def walk_all():
    for path in FILES:
        for node in ast.walk(ast.parse(path.read_text())):
            yield path.name, node


def own_methods():
    return {
        item.name for name, node in walk_all() if isinstance(node, ast.ClassDef)
        for item in node.body if isinstance(item, ast.FunctionDef)
    }


def own_values():
    return {
        node.attr for name, node in walk_all()
        if isinstance(node, ast.Attribute) and isinstance(node.ctx, ast.Store)
    }


def names_given(node):
    if isinstance(node, (ast.FunctionDef, ast.ClassDef)):
        return [node.name]
    if isinstance(node, ast.arg):
        return [node.arg]
    if isinstance(node, ast.Name) and isinstance(node.ctx, ast.Store):
        return [node.id]
    if isinstance(node, ast.Attribute) and isinstance(node.ctx, ast.Store):
        return [node.attr]
    return []


class TestLanguage(unittest.TestCase):

    def test_files_and_signs(self):
        self.assertIn("__init__.py", [path.name for path in FILES])
        for path in FILES:
            with self.subTest(path=path.name):
                self.assertRegex(path.name, r"\A[a-z0-9_]+\.py\Z")
                code = path.read_text()
                self.assertRegex(code, r"\A[ -~\n]*\Z")
                self.assertIsNone(BANNED_WORDS.search(code))
                self.assertLessEqual(len(code.splitlines()), 400)
                self.assertLessEqual(max(map(len, code.splitlines())), 120)

    def test_statements_and_expressions(self):
        for name, node in walk_all():
            with self.subTest(name=name, line=getattr(node, "lineno", 0)):
                if isinstance(node, ast.stmt):
                    self.assertIsInstance(node, STATEMENTS)
                if isinstance(node, ast.expr):
                    self.assertIsInstance(node, EXPRESSIONS)
                self.assertNotIsInstance(node, ast.Div)
                if isinstance(node, ast.Constant):
                    self.assertNotIsInstance(node.value, (float, complex, bytes))
                    self.assertNotIn("%", node.value if isinstance(node.value, str) else "")
                if isinstance(node, ast.Assign):
                    self.assertEqual(len(node.targets), 1)
                    self.assertNotIsInstance(node.targets[0], (ast.Tuple, ast.List))
                if isinstance(node, (ast.For, ast.While)):
                    self.assertEqual(node.orelse, [])
                if isinstance(node, ast.Try):
                    self.assertEqual(node.finalbody, [])

    def test_the_top_of_a_module(self):
        for path in FILES:
            bound = []
            for node in ast.parse(path.read_text()).body:
                with self.subTest(name=path.name, line=node.lineno):
                    self.assertIsInstance(node, (ast.Expr, ast.ImportFrom, ast.Assign, ast.FunctionDef, ast.ClassDef))
                    if isinstance(node, ast.Assign):
                        # No reckoning there: a plain value is one that can be read off.
                        ast.literal_eval(node.value)
                        bound.append(node.targets[0].id)
                    if isinstance(node, (ast.FunctionDef, ast.ClassDef)):
                        bound.append(node.name)
            with self.subTest(name=path.name):
                self.assertEqual(sorted(bound), sorted(set(bound)))

    def test_imports(self):
        for name, node in walk_all():
            if isinstance(node, ast.ImportFrom):
                with self.subTest(name=name, line=node.lineno):
                    self.assertEqual(node.level, 0)
                    self.assertTrue(node.module.startswith("moot."))
                    self.assertIn(node.module[len("moot."):] + ".py", [path.name for path in FILES])
                    self.assertNotIn("*", [alias.name for alias in node.names])

    def test_no_two_files_draw_from_one_another(self):
        drawn = {path.name[:-len(".py")]: set() for path in FILES}
        for name, node in walk_all():
            if isinstance(node, ast.ImportFrom):
                drawn[name[:-len(".py")]].add(node.module[len("moot."):])
        while drawn:
            # A file that draws from none of those left can be read ahead of them.
            free = [name for name in drawn if not drawn[name] & set(drawn)]
            self.assertNotEqual(free, [], drawn)
            for name in free:
                del drawn[name]

    def test_no_local_is_called_like_a_class_or_an_import(self):
        for path in FILES:
            nodes = list(ast.walk(ast.parse(path.read_text())))
            taken = {alias.name for node in nodes if isinstance(node, ast.ImportFrom) for alias in node.names}
            taken |= {node.name for node in nodes if isinstance(node, ast.ClassDef)}
            for node in nodes:
                if isinstance(node, ast.arg) or isinstance(node, ast.Name) and isinstance(node.ctx, ast.Store):
                    with self.subTest(name=path.name, line=node.lineno):
                        self.assertNotIn(names_given(node)[0], taken)

    def test_texts_with_names_in_them(self):
        for name, node in walk_all():
            if isinstance(node, ast.FormattedValue):
                with self.subTest(name=name, line=node.lineno):
                    self.assertIsInstance(node.value, ast.Name)
                    self.assertIsNone(node.format_spec)
                    self.assertIn(node.conversion, (-1, ord("r")))

    def test_functions_and_classes(self):
        for name, node in walk_all():
            with self.subTest(name=name, line=getattr(node, "lineno", 0)):
                if isinstance(node, (ast.FunctionDef, ast.ClassDef)):
                    self.assertEqual(node.decorator_list, [])
                if isinstance(node, ast.FunctionDef):
                    self.assertLessEqual(node.end_lineno - node.lineno + 1, 40)
                    self.assertIsNone(node.args.vararg)
                    self.assertIsNone(node.args.kwarg)
                    self.assertEqual(node.args.kwonlyargs, [])
                if isinstance(node, ast.ClassDef):
                    self.assertLessEqual(len(node.bases), 1)
                    for item in node.body:
                        self.assertIsInstance(item, (ast.FunctionDef, ast.Expr))

    def test_names(self):
        methods = own_methods()
        for name, node in walk_all():
            for given in names_given(node):
                with self.subTest(name=name, line=node.lineno, given=given):
                    self.assertNotIn(given, BANNED_NAMES)
                    self.assertTrue(given in SPECIAL_METHODS or not given.startswith("_"))
                    self.assertTrue(given in methods or not hasattr(builtins, given))
            if isinstance(node, ast.Name) and hasattr(builtins, node.id):
                with self.subTest(name=name, line=node.lineno, used=node.id):
                    self.assertIn(node.id, ALLOWED_BUILTINS)

    def test_methods_and_values(self):
        methods, values = own_methods(), own_values()
        self.assertEqual(methods & values, set())
        known = methods | values | ALLOWED_METHODS | SPECIAL_METHODS
        for name, node in walk_all():
            if isinstance(node, ast.Attribute):
                with self.subTest(name=name, line=node.lineno):
                    self.assertIn(node.attr, known)

    def test_is_stands_beside_none_true_and_false_alone(self):
        for name, node in walk_all():
            if isinstance(node, ast.Compare) and isinstance(node.ops[0], (ast.Is, ast.IsNot)):
                with self.subTest(name=name, line=node.lineno):
                    self.assertIn(ast.unparse(node.comparators[0]), ("None", "True", "False"))


if __name__ == "__main__":
    unittest.main()
