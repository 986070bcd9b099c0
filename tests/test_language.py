"""The part of Python that the package keeps to: what of it can be seen in the files."""

import ast
import builtins
import pathlib
import re
import unittest

PACKAGE = pathlib.Path(__file__).resolve().parent.parent / "hissroom"
FILES = sorted(PACKAGE.glob("**/*.py"))

OWN_NAMES = set(
    "len range enumerate zip min max sum abs sorted reversed int str bool bytes list tuple dict set frozenset "
    "isinstance ord repr any all divmod Exception ValueError TypeError KeyError IndexError LookupError "
    "ZeroDivisionError ArithmeticError OverflowError RuntimeError NotImplementedError AttributeError "
    "StopIteration".split()
)
NODES = set(
    "Module ImportFrom alias FunctionDef ClassDef arguments arg Lambda Assign AugAssign If While For Return Break "
    "Continue Pass Raise Try ExceptHandler Expr Assert Delete Name Attribute Subscript Slice Constant List Tuple "
    "Dict Set BinOp UnaryOp BoolOp Compare IfExp Call keyword ListComp DictComp SetComp comprehension JoinedStr "
    "FormattedValue Starred Load Store Del Add Sub Mult FloorDiv Mod Pow LShift RShift BitOr BitXor BitAnd Invert "
    "Not USub UAdd And Or Eq NotEq Lt LtE Gt GtE Is IsNot In NotIn".split()
)
METHODS = {"__init__", "__eq__", "__repr__", "__str__", "__len__"}
# Methods of Python's own values; `sort` and those of bytes are left out, for nothing here needs them.
CALLED = set(
    "append clear copy count endswith extend find get index insert isalnum isalpha isdigit islower isspace isupper "
    "items join keys ljust lower lstrip partition pop remove replace reverse rfind rjust rpartition rsplit rstrip "
    "setdefault split splitlines startswith strip update upper values zfill bit_length title capitalize swapcase "
    "casefold center expandtabs removeprefix removesuffix rindex isascii isdecimal isnumeric istitle isidentifier "
    "isprintable".split()
)
WORDS = re.compile(
    r"\b(type|typing|typing_extensions|enum|Enum|IntEnum|StrEnum|Flag|IntFlag|Generic|Protocol|ABC|ABCMeta|namedtuple"
    r"|NamedTuple|TypedDict|TYPE_CHECKING|abstractmethod)\b|dataclass|overload|contextmanager"
)


def trees():
    return [(path, ast.parse(path.read_text())) for path in FILES]


def nodes(*kinds):
    return [(path, node) for path, tree in trees() for node in ast.walk(tree) if isinstance(node, kinds)]


class Files(unittest.TestCase):
    def test_only_files_of_python_lie_in_the_package(self):
        self.assertIn(PACKAGE / "__init__.py", FILES)
        for path in PACKAGE.glob("**/*"):
            if "__pycache__" not in path.parts and path.is_file():
                self.assertRegex(path.name, r"^[a-z0-9_]+\.py$")

    def test_signs_and_sizes(self):
        for path in FILES:
            text = path.read_bytes().decode("ascii")
            rows = text.split("\n")
            self.assertLessEqual(len(rows), 400, path)
            for row in rows:
                self.assertLessEqual(len(row), 120, path)
                self.assertTrue(all(" " <= sign <= "~" for sign in row), (path, row))
            self.assertIsNone(WORDS.search(text), path)

    def test_functions_are_short(self):
        for path, node in nodes(ast.FunctionDef):
            self.assertLessEqual(node.end_lineno - node.lineno + 1, 40, (path, node.name))
            self.assertEqual(node.decorator_list, [])


class Forms(unittest.TestCase):
    def test_only_the_forms_that_may_stand(self):
        for path, tree in trees():
            for node in ast.walk(tree):
                self.assertIn(type(node).__name__, NODES, (path, getattr(node, "lineno", None)))

    def test_only_the_packages_own_modules_are_drawn(self):
        drawn = {}
        for path, node in nodes(ast.ImportFrom):
            self.assertEqual(node.level, 0, path)
            self.assertTrue(node.module.startswith("hissroom."), path)
            self.assertIn(PACKAGE / (node.module.split(".")[1] + ".py"), FILES)
            self.assertNotIn("*", [alias.name for alias in node.names])
            drawn.setdefault(path.stem, set()).add(node.module.split(".")[1])
        self.assertNotIn("__init__", drawn)
        left = set(path.stem for path in FILES)
        while left:
            free = set(name for name in left if not drawn.get(name, set()) & left)
            self.assertTrue(free, f"files draw from one another: {left}")
            left -= free

    def test_names(self):
        for path, node in nodes(ast.Name):
            self.assertFalse(node.id.startswith("_"), (path, node.id))
            if hasattr(builtins, node.id):
                self.assertIn(node.id, OWN_NAMES, (path, node.lineno))
                self.assertIsInstance(node.ctx, ast.Load, (path, node.lineno))
        for path, node in nodes(ast.arg):
            self.assertFalse(node.arg.startswith("_") or hasattr(builtins, node.arg), (path, node.arg))
        for path, node in nodes(ast.FunctionDef):
            self.assertTrue(not node.name.startswith("_") or node.name in METHODS, (path, node.name))

    def test_nothing_is_called_like_an_import_of_its_file(self):
        for path, tree in trees():
            taken = set(node.name for node in tree.body if isinstance(node, ast.ClassDef))
            for node in tree.body:
                if isinstance(node, ast.ImportFrom):
                    taken.update(alias.asname or alias.name for alias in node.names)
            for node in ast.walk(tree):
                if isinstance(node, ast.Name) and isinstance(node.ctx, ast.Store):
                    self.assertNotIn(node.id, taken, (path, node.lineno))
                if isinstance(node, ast.arg):
                    self.assertNotIn(node.arg, taken, (path, node.lineno))

    def test_written_values(self):
        for path, node in nodes(ast.Constant):
            self.assertNotIsInstance(node.value, (float, complex), (path, node.lineno))
            if isinstance(node.value, str):
                self.assertNotIn("%", node.value, (path, node.lineno))

    def test_methods_and_values_of_objects(self):
        methods, values = {}, {}
        for path, node in nodes(ast.ClassDef):
            for part in node.body:
                if isinstance(part, ast.FunctionDef):
                    methods[part.name] = path
        for path, node in nodes(ast.Attribute):
            if isinstance(node.ctx, ast.Store):
                values[node.attr] = path
        self.assertEqual(set(methods) & set(values), set())
        for path, tree in trees():
            called = set(id(node.func) for node in ast.walk(tree) if isinstance(node, ast.Call))
            for node in ast.walk(tree):
                if isinstance(node, ast.Attribute) and id(node) in called:
                    self.assertIn(node.attr, CALLED | set(methods), (path, node.lineno))
                elif isinstance(node, ast.Attribute):
                    self.assertIn(node.attr, values, (path, node.lineno))

    def test_errors_are_raised_on_the_spot(self):
        errors = set(node.name for path, node in nodes(ast.ClassDef) if path.stem == "errors")
        for path, node in nodes(ast.Raise):
            self.assertIsInstance(node.exc, ast.Call, (path, node.lineno))
            self.assertIn(node.exc.func.id, errors, (path, node.lineno))
        for path, node in nodes(ast.ExceptHandler):
            for name in node.type.elts if isinstance(node.type, ast.Tuple) else [node.type]:
                self.assertIn(name.id, errors | {"KeyError", "ZeroDivisionError"}, (path, node.lineno))

    def test_is_stands_beside_none_true_and_false_alone(self):
        for path, node in nodes(ast.Compare):
            for sign, right in zip(node.ops, node.comparators):
                if isinstance(sign, (ast.Is, ast.IsNot)):
                    self.assertIn(getattr(right, "value", "no"), (None, True, False), (path, node.lineno))


if __name__ == "__main__":
    unittest.main()
