"""The package's own files keep to the small part of Python that the program is written in.

Rules that a look at the syntax tree can tell are checked here; the rest is for the reader.
"""

import ast
import builtins
import pathlib
import re
import unittest

PACKAGE = pathlib.Path(__file__).resolve().parent.parent / "wallspace"

NODES = """
Module Expr ImportFrom alias FunctionDef ClassDef arguments arg Lambda Return
Assign AugAssign If While For Break Continue Pass Raise Try ExceptHandler
Name Attribute Subscript Slice Call keyword Constant List Tuple Dict Set ListComp comprehension
JoinedStr FormattedValue IfExp BoolOp And Or UnaryOp Not USub UAdd Invert Compare BinOp
Add Sub Mult FloorDiv Mod Pow BitAnd BitOr BitXor LShift RShift
Eq NotEq Lt LtE Gt GtE In NotIn Is IsNot Load Store
""".split()

OWN_NAMES = """
len range enumerate zip min max sum abs sorted reversed int str bool list tuple dict set frozenset
isinstance ord repr any all divmod Exception ValueError TypeError KeyError IndexError LookupError
ZeroDivisionError ArithmeticError OverflowError RuntimeError NotImplementedError AttributeError StopIteration
""".split()

METHODS = """
append clear copy count endswith extend find get index insert isalnum isalpha isdigit islower isspace
isupper items join keys ljust lower lstrip partition pop remove replace reverse rfind rjust rpartition
rsplit rstrip setdefault split splitlines startswith strip update upper values zfill bit_length __init__
""".split()

# What walks something is to be walked on the spot: here, or behind an `in`.
WALKERS = "zip enumerate reversed range items keys values".split()
WALKED_IN = "list tuple dict sorted sum any all enumerate zip min max join".split()

WORDS = re.compile(
    r"\b(type|typing|typing_extensions|enum|Enum|IntEnum|StrEnum|Flag|IntFlag|Generic|Protocol|ABC|ABCMeta"
    r"|namedtuple|NamedTuple|TypedDict|TYPE_CHECKING|abstractmethod)\b|dataclass|overload|contextmanager"
)


def files():
    return sorted(path for path in PACKAGE.rglob("*") if "__pycache__" not in path.parts)


def trees():
    return [(path.name, ast.parse(path.read_text(encoding="ascii"))) for path in files()]


def nodes(*kinds):
    return [(name, node) for name, tree in trees() for node in ast.walk(tree) if isinstance(node, kinds)]


def called(node):
    """The name that a call calls, if it is one."""
    func = node.func if isinstance(node, ast.Call) else None
    return func.attr if isinstance(func, ast.Attribute) else getattr(func, "id", None)


def drawn_from():
    """For each module of the package those that it draws from."""
    found = {name.removesuffix(".py"): [] for name, tree in trees()}
    for name, node in nodes(ast.ImportFrom):
        found[name.removesuffix(".py")].append(node.module.partition(".")[2])
    return found


def bound_names():
    found = [node.name for name, node in nodes(ast.FunctionDef, ast.ClassDef)]
    found += [node.arg for name, node in nodes(ast.arg)]
    found += [node.id for name, node in nodes(ast.Name) if isinstance(node.ctx, ast.Store)]
    return found


class TheFiles(unittest.TestCase):
    def test_names(self):
        self.assertIn(PACKAGE / "__init__.py", files())
        for path in files():
            self.assertRegex(path.name, r"\A([a-z][a-z0-9_]*|__init__)\.py\Z")

    def test_sizes_and_signs(self):
        for path in files():
            text = path.read_bytes().decode("ascii")
            lines = text.split("\n")
            self.assertLessEqual(len(lines), 400, path.name)
            self.assertLessEqual(max(len(line) for line in lines), 120, path.name)
            self.assertRegex(text, r"\A[ -~\n]*\Z", path.name)
            self.assertIsNone(WORDS.search(text), path.name)

    def test_functions_are_short(self):
        for name, node in nodes(ast.FunctionDef):
            self.assertLessEqual(node.end_lineno - node.lineno + 1, 40, (name, node.name))


class TheForms(unittest.TestCase):
    def test_nodes(self):
        for name, tree in trees():
            for node in ast.walk(tree):
                self.assertIn(type(node).__name__, NODES, (name, getattr(node, "lineno", 0)))

    def test_plain_values(self):
        for name, node in nodes(ast.Constant):
            self.assertIn(type(node.value), (int, str, bool, type(None)), (name, node.lineno))

    def test_plain_parameters(self):
        for name, node in nodes(ast.arguments):
            self.assertEqual((node.vararg, node.kwarg, node.kwonlyargs, node.posonlyargs), (None, None, [], []))
        for name, node in nodes(ast.FunctionDef, ast.ClassDef):
            self.assertEqual(node.decorator_list, [], (name, node.lineno))

    def test_plain_loops_and_assignments(self):
        for name, node in nodes(ast.For, ast.While):
            self.assertEqual(node.orelse, [], (name, node.lineno))
        for name, node in nodes(ast.Assign):
            self.assertEqual(len(node.targets), 1, (name, node.lineno))
        for name, node in nodes(ast.ListComp):
            self.assertEqual(len(node.generators), 1, (name, node.lineno))
            self.assertLessEqual(len(node.generators[0].ifs), 1, (name, node.lineno))

    def test_is_stands_beside_none_and_truths(self):
        for name, node in nodes(ast.Compare):
            if isinstance(node.ops[0], (ast.Is, ast.IsNot)):
                self.assertIsInstance(node.comparators[0], ast.Constant, (name, node.lineno))

    def test_imports(self):
        own = [path.stem for path in files()]
        for name, node in nodes(ast.ImportFrom):
            package, dot, module = node.module.partition(".")
            self.assertEqual((node.level, package), (0, "wallspace"), (name, node.lineno))
            self.assertIn(module, own, (name, node.lineno))
            self.assertEqual([alias.asname for alias in node.names if alias.asname or alias.name == "*"], [])


    def test_imports_come_from_the_file_that_defines_the_name(self):
        defined = {name: [getattr(node, "name", None) for node in tree.body] for name, tree in trees()}
        for name, node in nodes(ast.ImportFrom):
            for alias in node.names:
                self.assertIn(alias.name, defined[node.module.partition(".")[2] + ".py"], (name, node.lineno))

    def test_no_two_files_draw_from_one_another(self):
        left = drawn_from()
        while left:
            free = [name for name, others in left.items() if not any(other in left for other in others)]
            self.assertNotEqual(free, [], left)
            left = {name: others for name, others in left.items() if name not in free}

    def test_what_walks_is_walked_on_the_spot(self):
        walked = [node.iter for name, node in nodes(ast.For, ast.comprehension)]
        walked += [node.args[0] for name, node in nodes(ast.Call) if called(node) in WALKED_IN and node.args]
        places = [(node.lineno, node.col_offset) for node in walked]
        for name, node in nodes(ast.Call):
            if called(node) in WALKERS:
                self.assertIn((node.lineno, node.col_offset), places, (name, node.lineno))

    def test_no_sets_and_no_powers(self):
        self.assertEqual(nodes(ast.Set, ast.Pow), [])
        for name, node in nodes(ast.Call):
            self.assertNotIn(called(node), ("set", "frozenset", "chr"), (name, node.lineno))


class TheNames(unittest.TestCase):
    def test_no_method_is_a_value_too(self):
        methods = [inner.name for name, node in nodes(ast.ClassDef) for inner in node.body
                   if isinstance(inner, ast.FunctionDef) and inner.name != "__init__"]
        values = [node.attr for name, node in nodes(ast.Attribute) if isinstance(node.ctx, ast.Store)]
        pythons_own = [dir(value) for value in ("", 0, [], {}, set(), b"", ())]
        for name in methods + values:
            self.assertFalse(name in methods and name in values, name)
            self.assertFalse(any(name in names for names in pythons_own), name)

    def test_bound_names_are_plain_and_own(self):
        for name in bound_names():
            if name != "__init__":
                self.assertRegex(name, r"\A[A-Za-z][A-Za-z0-9_]*\Z")
                self.assertFalse(hasattr(builtins, name), name)

    def test_no_local_is_called_like_an_import_or_class_of_its_file(self):
        for name, tree in trees():
            taken = [alias.name for node in ast.walk(tree) if isinstance(node, ast.ImportFrom) for alias in node.names]
            taken += [node.name for node in ast.walk(tree) if isinstance(node, ast.ClassDef)]
            for node in ast.walk(tree):
                local = node.arg if isinstance(node, ast.arg) else None
                if isinstance(node, ast.Name) and isinstance(node.ctx, ast.Store):
                    local = node.id
                self.assertNotIn(local, taken, name)

    def test_pythons_own_names(self):
        for name, node in nodes(ast.Name):
            if hasattr(builtins, node.id):
                self.assertIn(node.id, OWN_NAMES, (name, node.lineno))

    def test_methods(self):
        own = [node.name for name, node in nodes(ast.FunctionDef)]
        for name, node in nodes(ast.Call):
            if isinstance(node.func, ast.Attribute):
                self.assertIn(node.func.attr, METHODS + own, (name, node.lineno))


if __name__ == "__main__":
    unittest.main()
