"""What can be seen of the language rules (L1 to L28) in the package's files.

It looks at the rules that a wrong line breaks most easily; the others are held by reading.
"""

import ast
import builtins
import pathlib
import re
import unittest

PACKAGE = pathlib.Path(__file__).resolve().parent.parent / "currentfloor"
STATEMENTS = (
    "FunctionDef ClassDef Assign AugAssign If While For Return Break Continue Pass Raise Try ExceptHandler "
    "Expr ImportFrom alias arguments arg"
)
EXPRESSIONS = (
    "Constant List Tuple Dict Set Name Attribute Subscript Slice Call keyword IfExp Lambda ListComp comprehension "
    "JoinedStr FormattedValue BoolOp BinOp UnaryOp Compare"
)
SIGNS = (
    "And Or Not USub Invert Add Sub Mult FloorDiv Mod Pow BitAnd BitOr BitXor LShift RShift "
    "Eq NotEq Lt LtE Gt GtE In NotIn Is IsNot Load Store"
)
NODES = set((STATEMENTS + " " + EXPRESSIONS + " " + SIGNS + " Module").split())
OWN_NAMES = set(
    "len range enumerate zip min max sum abs sorted reversed int str bool list tuple dict set frozenset isinstance "
    "ord repr any all divmod Exception ValueError TypeError KeyError IndexError LookupError ZeroDivisionError "
    "ArithmeticError OverflowError RuntimeError NotImplementedError AttributeError StopIteration".split()
)
METHODS = set(
    "append clear copy count endswith extend find get index insert isalnum isalpha isdigit islower isspace isupper "
    "items join keys ljust lower lstrip partition pop remove replace reverse rfind rjust rpartition rsplit rstrip "
    "setdefault split splitlines startswith strip update upper values zfill bit_length".split()
)
DOUBLE = {"__init__", "__eq__", "__repr__", "__str__", "__len__"}
WORDS = (
    "type typing typing_extensions enum Enum IntEnum StrEnum Flag IntFlag Generic Protocol ABC ABCMeta namedtuple "
    "NamedTuple TypedDict TYPE_CHECKING abstractmethod"
).split()
UNUSED = set(
    "register mro elements open input version_info with_traceback add_note format format_map".split()
)


def package_files():
    return sorted(PACKAGE.rglob("*.py"))


def parsed():
    return [(path, ast.parse(path.read_text("utf-8"))) for path in package_files()]


def own_methods():
    names = set()
    for path, tree in parsed():
        for node in ast.walk(tree):
            if isinstance(node, ast.ClassDef):
                names |= {child.name for child in node.body if isinstance(child, ast.FunctionDef)}
    return names


def own_values():
    return {
        node.attr
        for path, tree in parsed()
        for node in ast.walk(tree)
        if isinstance(node, ast.Attribute) and isinstance(node.ctx, ast.Store)
    }


def bound_names(tree):
    """All names that a file gives a meaning, with their rows."""
    for node in ast.walk(tree):
        if isinstance(node, (ast.FunctionDef, ast.ClassDef)):
            yield node.name, node.lineno
        elif isinstance(node, ast.arg):
            yield node.arg, node.lineno
        elif isinstance(node, ast.Name) and isinstance(node.ctx, ast.Store):
            yield node.id, node.lineno
        elif isinstance(node, ast.ExceptHandler) and node.name:
            yield node.name, node.lineno


class TheFiles(unittest.TestCase):
    def test_only_plain_files_lie_in_the_package(self):
        for path in PACKAGE.rglob("*"):
            if "__pycache__" not in path.parts:
                self.assertRegex(path.name, r"^([a-z][a-z0-9_]*|__init__|__main__)\.py$")
        self.assertTrue((PACKAGE / "__init__.py").is_file())

    def test_signs_and_sizes(self):
        for path in package_files():
            text = path.read_bytes().decode("utf-8")
            self.assertRegex(text, r"\A[ -~\n]*\Z", path)
            rows = text.splitlines()
            self.assertLessEqual(len(rows), 400, path)
            self.assertLessEqual(max(len(row) for row in rows), 120, path)

    def test_functions_are_short(self):
        for path, tree in parsed():
            for node in ast.walk(tree):
                if isinstance(node, ast.FunctionDef):
                    self.assertLessEqual(node.end_lineno - node.lineno + 1, 40, (path, node.name))

    def test_words_that_stand_nowhere(self):
        for path in package_files():
            text = path.read_text("utf-8")
            found = re.findall(r"\b(" + "|".join(WORDS) + r")\b|(dataclass|overload|contextmanager)", text)
            self.assertEqual(found, [], path)


class TheForms(unittest.TestCase):
    def test_statements_and_expressions(self):
        for path, tree in parsed():
            for node in ast.walk(tree):
                place = (path, getattr(node, "lineno", None))
                self.assertIn(node.__class__.__name__, NODES, place)
                self.check_node(node, place)

    def check_node(self, node, place):
        if isinstance(node, ast.Assign):
            self.assertEqual(len(node.targets), 1, place)
        if isinstance(node, (ast.For, ast.While)):
            self.assertEqual(node.orelse, [], place)
        if isinstance(node, ast.Try):
            self.assertEqual(node.finalbody, [], place)
        if isinstance(node, (ast.FunctionDef, ast.ClassDef)):
            self.assertEqual(node.decorator_list, [], place)
        if isinstance(node, ast.arguments):
            self.assertEqual((node.vararg, node.kwarg, node.kwonlyargs, node.posonlyargs), (None, None, [], []), place)
        if isinstance(node, ast.ListComp):
            self.assertEqual(len(node.generators), 1, place)
            self.assertLessEqual(len(node.generators[0].ifs), 1, place)
        if isinstance(node, ast.Constant):
            self.assertIn(node.value.__class__.__name__, ("int", "str", "bool", "NoneType"), place)
            if isinstance(node.value, str):
                self.assertNotIn("%", node.value, place)
        if isinstance(node, ast.BinOp) and isinstance(node.op, ast.Pow):
            self.assertIsInstance(node.right, ast.Constant, place)
            self.assertIn(node.right.value, range(65), place)

    def test_imports_are_the_package_s_own(self):
        for path, tree in parsed():
            for node in ast.walk(tree):
                if isinstance(node, ast.ImportFrom):
                    place = (path, node.lineno)
                    self.assertEqual(node.level, 0, place)
                    self.assertRegex(node.module, r"^currentfloor\.[a-z_]+$", place)
                    self.assertIn(node, tree.body, place)
                    drawn = ast.parse((PACKAGE / (node.module.split(".")[1] + ".py")).read_text("utf-8"))
                    there = {name for name, row in bound_names(drawn)}
                    for alias in node.names:
                        self.assertIn(alias.name, there, place)

    def test_no_two_files_draw_from_one_another(self):
        draws = {}
        for path, tree in parsed():
            rows = [node for node in tree.body if isinstance(node, ast.ImportFrom)]
            draws[path.stem] = {node.module.split(".")[1] for node in rows}
        while draws:
            ready = [stem for stem in draws if not draws[stem] & set(draws)]
            self.assertTrue(ready, draws)
            draws = {stem: draws[stem] for stem in draws if stem not in ready}


class TheNames(unittest.TestCase):
    def test_bound_names_are_plain(self):
        for path, tree in parsed():
            for name, row in bound_names(tree):
                if name not in DOUBLE | {"__all__", "__version__"}:
                    self.assertRegex(name, r"^[A-Za-z][A-Za-z0-9_]*$", (path, row))
                    self.assertNotIn(name, UNUSED, (path, row))

    def test_python_s_own_names_keep_their_meaning(self):
        methods = own_methods()
        for path, tree in parsed():
            for name, row in bound_names(tree):
                if name not in methods:
                    self.assertFalse(hasattr(builtins, name), (path, row, name))

    def test_no_local_is_called_like_a_class_or_an_import(self):
        for path, tree in parsed():
            taken = {alias.name for node in tree.body if isinstance(node, ast.ImportFrom) for alias in node.names}
            taken |= {node.name for node in tree.body if isinstance(node, ast.ClassDef)}
            for node in ast.walk(tree):
                if isinstance(node, ast.arg):
                    self.assertNotIn(node.arg, taken, (path, node.lineno))
                if isinstance(node, ast.Name) and isinstance(node.ctx, ast.Store):
                    self.assertNotIn(node.id, taken, (path, node.lineno))

    def test_only_the_listed_names_of_python(self):
        for path, tree in parsed():
            bound = {name for name, row in bound_names(tree)}
            bound |= {alias.name for node in tree.body if isinstance(node, ast.ImportFrom) for alias in node.names}
            for node in ast.walk(tree):
                if isinstance(node, ast.Name) and isinstance(node.ctx, ast.Load) and node.id not in bound:
                    self.assertIn(node.id, OWN_NAMES, (path, node.lineno))

    def test_only_the_listed_methods_of_python(self):
        known = (METHODS | own_methods() | own_values() | DOUBLE) - UNUSED
        for path, tree in parsed():
            for node in ast.walk(tree):
                if isinstance(node, ast.Attribute):
                    self.assertIn(node.attr, known, (path, node.lineno))

    def test_no_name_is_a_method_here_and_a_value_there(self):
        self.assertEqual(own_methods() & own_values(), set())


if __name__ == "__main__":
    unittest.main()
