"""Some of the rules of LANGUAGE.md, those that are easily seen in a file's form, held against the whole package."""

import ast
import builtins
import pathlib
import re
import unittest

PACKAGE = pathlib.Path(__file__).resolve().parent.parent / "errandend"

STATEMENTS = (
    ast.FunctionDef, ast.ClassDef, ast.ImportFrom, ast.Assign, ast.AugAssign, ast.If, ast.While, ast.For, ast.Return,
    ast.Break, ast.Continue, ast.Pass, ast.Raise, ast.Try, ast.Expr,
)
EXPRESSIONS = (
    ast.Constant, ast.Name, ast.Attribute, ast.Subscript, ast.Slice, ast.List, ast.Tuple, ast.Dict, ast.BinOp,
    ast.UnaryOp, ast.BoolOp, ast.Compare, ast.IfExp, ast.Call, ast.ListComp, ast.Lambda, ast.JoinedStr,
    ast.FormattedValue,
)
PYTHON_NAMES = set(
    "len range enumerate zip min max sum abs sorted reversed int str bool list tuple dict set frozenset isinstance ord "
    "repr any all divmod Exception ValueError TypeError KeyError IndexError LookupError ZeroDivisionError "
    "ArithmeticError OverflowError RuntimeError NotImplementedError AttributeError StopIteration".split()
)
METHODS = set(
    "append clear copy count endswith extend find get index insert isalnum isalpha isdigit islower isspace isupper "
    "items join keys ljust lower lstrip partition pop remove replace reverse rfind rjust rpartition rsplit rstrip "
    "setdefault split splitlines startswith strip update upper values zfill bit_length".split()
)
# Those that walk the first thing handed to them on the spot.
WALKERS = ("list", "tuple", "dict", "sorted", "sum", "any", "all", "enumerate", "zip", "min", "max")
BARRED_WORDS = (
    r"\b(type|typing|typing_extensions|enum|Enum|IntEnum|StrEnum|Flag|IntFlag|Generic|Protocol|ABC|ABCMeta|namedtuple"
    r"|NamedTuple|TypedDict|TYPE_CHECKING|abstractmethod)\b|dataclass|overload|contextmanager"
)


def read_package():
    """A tuple of name, text and syntax tree for each file."""
    files = []
    for path in sorted(PACKAGE.glob("*.py")):
        text = path.read_text(encoding="utf-8")
        files.append((path.stem, text, ast.parse(text)))
    return files


def parts_of(tree, kind):
    return [node for node in ast.walk(tree) if isinstance(node, kind)]


def bound_names(tree):
    """Every name that a file binds somewhere: defs, classes, parameters, imports, locals and handlers' names."""
    names = [node.name for node in parts_of(tree, (ast.FunctionDef, ast.ClassDef))]
    names += [node.arg for node in parts_of(tree, ast.arg)]
    names += [node.asname or node.name for node in parts_of(tree, ast.alias)]
    names += [node.id for node in parts_of(tree, ast.Name) if isinstance(node.ctx, ast.Store)]
    names += [node.name for node in parts_of(tree, ast.ExceptHandler) if node.name]
    return set(names)


def top_names(tree):
    """The names that a file itself defines at its top."""
    names = [node.name for node in tree.body if isinstance(node, (ast.FunctionDef, ast.ClassDef))]
    return names + [node.targets[0].id for node in tree.body if isinstance(node, ast.Assign)]


def own_attributes(tree):
    """The methods of a file's classes, and the values that it gives to objects."""
    names = [part.name for node in parts_of(tree, ast.ClassDef) for part in parts_of(node, ast.FunctionDef)]
    return names + [node.attr for node in parts_of(tree, ast.Attribute) if isinstance(node.ctx, ast.Store)]


def is_docstring(node, tree):
    return node is tree.body[0] and isinstance(node.value, ast.Constant) and isinstance(node.value.value, str)


class TestLanguage(unittest.TestCase):
    def check_each_file(self, check):
        files = read_package()
        self.assertNotEqual(files, [])
        for stem, text, tree in files:
            with self.subTest(stem):
                check(text, tree)

    def test_nothing_but_plain_files_lies_in_the_package(self):
        names = [path.name for path in PACKAGE.iterdir() if path.name != "__pycache__"]
        self.assertIn("__init__.py", names)
        for name in names:
            self.assertRegex(name, r"\A[a-z0-9_]+\.py\Z")

    def test_signs_and_lengths(self):
        def check(text, tree):
            self.assertRegex(text, r"\A[ -~\n]*\Z")
            self.assertIsNone(re.search(BARRED_WORDS, text))
            self.assertLessEqual(len(text.splitlines()), 400)
            self.assertLessEqual(max(len(line) for line in text.splitlines()), 120)
            for function in parts_of(tree, ast.FunctionDef):
                self.assertLessEqual(function.end_lineno - function.lineno + 1, 40)

        self.check_each_file(check)

    def test_statements(self):
        def check(text, tree):
            for node in parts_of(tree, ast.stmt):
                self.assertIsInstance(node, STATEMENTS)
                self.assertFalse(isinstance(node, (ast.For, ast.While)) and node.orelse)
                self.assertFalse(isinstance(node, ast.Try) and node.finalbody)
                if isinstance(node, ast.Assign):
                    self.assertEqual(len(node.targets), 1)
                if isinstance(node, ast.Expr) and not is_docstring(node, tree):
                    self.assertIsInstance(node.value, ast.Call)

        self.check_each_file(check)

    def test_expressions(self):
        def check(text, tree):
            for node in parts_of(tree, ast.expr):
                self.assertIsInstance(node, EXPRESSIONS)
            for node in parts_of(tree, ast.Constant):
                self.assertIn(type(node.value), (int, str, bool, type(None)))
                self.assertNotIn("%", str(node.value))
            self.assertEqual(parts_of(tree, ast.Div), [])
            for node in parts_of(tree, ast.ListComp):
                self.assertEqual(len(node.generators), 1)
                self.assertLessEqual(len(node.generators[0].ifs), 1)
            for node in parts_of(tree, ast.FormattedValue):
                self.assertIsInstance(node.value, ast.Name)

        self.check_each_file(check)

    def test_imports(self):
        defined = {"errandend." + stem: top_names(tree) for stem, _, tree in read_package()}

        def check(text, tree):
            for node in parts_of(tree, ast.ImportFrom):
                self.assertIn(node, tree.body)
                self.assertEqual(node.level, 0)
                for alias in node.names:
                    self.assertIn(alias.name, defined[node.module])

        self.check_each_file(check)

    def test_names(self):
        def check(text, tree):
            bound = bound_names(tree)
            for name in bound:
                self.assertRegex(name, r"\A([A-Za-z][A-Za-z0-9_]*|__init__)\Z")
                self.assertNotIn(name, dir(builtins))
            for node in parts_of(tree, ast.Name):
                self.assertIn(node.id, bound | PYTHON_NAMES)

        self.check_each_file(check)

    def test_methods(self):
        own = set()
        for _, _, tree in read_package():
            own.update(own_attributes(tree))

        def check(text, tree):
            for node in parts_of(tree, ast.Attribute):
                self.assertIn(node.attr, METHODS | own)

        self.check_each_file(check)

    def test_functions_and_classes(self):
        def check(text, tree):
            for node in parts_of(tree, ast.FunctionDef):
                asked = node.args
                self.assertEqual(node.decorator_list, [])
                self.assertEqual((asked.vararg, asked.kwarg, asked.kwonlyargs, asked.posonlyargs), (None, None, [], []))
            for node in parts_of(tree, ast.ClassDef):
                self.assertIn(node, tree.body)
                self.assertEqual((node.decorator_list, node.keywords), ([], []))
                self.assertLessEqual(len(node.bases), 1)
                for part in node.body:
                    self.assertIsInstance(part, (ast.FunctionDef, ast.Pass))

        self.check_each_file(check)

    def test_no_parameter_or_local_is_called_like_a_class_or_an_import_of_its_file(self):
        def check(text, tree):
            taken = [alias.name for node in parts_of(tree, ast.ImportFrom) for alias in node.names]
            taken += [node.name for node in parts_of(tree, ast.ClassDef)]
            names = [node.arg for node in parts_of(tree, ast.arg)]
            names += [node.id for node in parts_of(tree, ast.Name) if isinstance(node.ctx, ast.Store)]
            self.assertEqual(set(taken) & set(names), set())

        self.check_each_file(check)

    def test_no_two_files_draw_from_one_another(self):
        drawn = {}
        for stem, _, tree in read_package():
            drawn["errandend." + stem] = {node.module for node in parts_of(tree, ast.ImportFrom)}
        while drawn:
            free = [module for module in drawn if not drawn[module] & set(drawn)]
            self.assertNotEqual(free, [], "a round of imports")
            for module in free:
                del drawn[module]

    def test_what_is_walked_is_walked_at_once(self):
        def check(text, tree):
            walked = [node.iter for node in parts_of(tree, (ast.For, ast.comprehension))]
            for node in parts_of(tree, ast.Call):
                if isinstance(node.func, ast.Name) and node.func.id in WALKERS:
                    walked.extend(node.args[:1])
            for node in parts_of(tree, ast.Call):
                called = node.func.id if isinstance(node.func, ast.Name) else getattr(node.func, "attr", None)
                if called in ("zip", "enumerate", "reversed", "range", "items", "keys", "values"):
                    self.assertIn(node, walked)

        self.check_each_file(check)

    def test_methods_are_called_where_they_stand(self):
        methods = set(METHODS)
        given = set()
        for _, _, tree in read_package():
            for node in parts_of(tree, ast.ClassDef):
                methods.update(part.name for part in node.body if isinstance(part, ast.FunctionDef))
            given.update(node.attr for node in parts_of(tree, ast.Attribute) if isinstance(node.ctx, ast.Store))
        self.assertEqual(methods & given, set())

        def check(text, tree):
            called = [node.func for node in parts_of(tree, ast.Call)]
            for node in parts_of(tree, ast.Attribute):
                self.assertTrue(node.attr in given or node in called)

        self.check_each_file(check)

    def test_errors_that_are_taken_are_the_packages_own(self):
        def check(text, tree):
            imported = [alias.name for node in parts_of(tree, ast.ImportFrom) for alias in node.names]
            for node in parts_of(tree, ast.ExceptHandler):
                self.assertIn(node.type.id, imported)

        self.check_each_file(check)

    def test_is_stands_beside_none_true_and_false_alone(self):
        def check(text, tree):
            for node in parts_of(tree, ast.Compare):
                for sign, right in zip(node.ops, node.comparators):
                    if isinstance(sign, (ast.Is, ast.IsNot)):
                        self.assertIsInstance(right, ast.Constant)
                        self.assertIn(right.value, (None, True, False))

        self.check_each_file(check)


if __name__ == "__main__":
    unittest.main()
