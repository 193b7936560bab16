"""The rules of LANGUAGE.md that can be seen in the code by plain means; not all of them can."""

import ast
import builtins
import pathlib
import re
import unittest
import warnings

PACKAGE = pathlib.Path(__file__).resolve().parent.parent / "lentgate"

OWN_NAMES = set("""
    len range enumerate zip min max sum abs sorted reversed int str bool bytes list tuple dict set frozenset
    isinstance ord repr any all divmod Exception ValueError TypeError KeyError IndexError LookupError
    ZeroDivisionError ArithmeticError OverflowError RuntimeError NotImplementedError AttributeError StopIteration
""".split())
OWN_METHODS = {"__init__", "__eq__", "__repr__", "__str__", "__len__"}
# Those of Python's own that the rules allow and that do not only concern bytes.
FREE_METHODS = set("""
    append clear copy count endswith extend find get index insert isalnum isalpha isdigit islower isspace isupper
    items join keys ljust lower lstrip partition pop remove replace reverse rfind rjust rpartition rsplit rstrip
    setdefault split splitlines startswith strip update upper values zfill bit_length
""".split())
WORDS_OUT = re.compile(
    r"\b(type|typing|typing_extensions|enum|Enum|IntEnum|StrEnum|Flag|IntFlag|Generic|Protocol|ABC|ABCMeta"
    r"|namedtuple|NamedTuple|TypedDict|TYPE_CHECKING|abstractmethod)\b|dataclass|overload|contextmanager")
NODES_OUT = (
    ast.With, ast.Match, ast.Global, ast.Nonlocal, ast.Yield, ast.YieldFrom, ast.AsyncFunctionDef, ast.AsyncFor,
    ast.AsyncWith, ast.Await, ast.GeneratorExp, ast.NamedExpr, ast.Div, ast.Import, ast.MatMult)


def files():
    return sorted(PACKAGE.rglob("*.py"))


def nodes(path):
    return list(ast.walk(ast.parse(path.read_text(encoding="utf-8"))))


def given_names(tree):
    """Every name that the file gives: of defs, classes, parameters, assignments, imports and handlers."""
    for node in tree:
        if isinstance(node, (ast.FunctionDef, ast.ClassDef)):
            yield node.name
        elif isinstance(node, ast.arg):
            yield node.arg
        elif isinstance(node, ast.Name) and not isinstance(node.ctx, ast.Load):
            yield node.id
        elif isinstance(node, ast.alias):
            yield node.asname or node.name
        elif isinstance(node, ast.ExceptHandler) and node.name:
            yield node.name


class Language(unittest.TestCase):
    def test_only_plain_files_lie_in_the_package(self):
        found = [path for path in PACKAGE.rglob("*") if "__pycache__" not in path.parts and path.is_file()]
        self.assertTrue(found)
        for path in found:
            self.assertRegex(path.name, r"\A(__init__|__main__|[a-z][a-z0-9_]*)\.py\Z")

    def test_signs_and_sizes(self):
        for path in files():
            text = path.read_text(encoding="utf-8")
            rows = text.split("\n")
            self.assertRegex(text, r"\A[ -~\n]*\Z", path)
            self.assertLessEqual(len(rows), 401, path)
            self.assertLessEqual(max(map(len, rows)), 120, path)
            for node in nodes(path):
                if isinstance(node, ast.FunctionDef):
                    self.assertLessEqual(node.end_lineno - node.lineno + 1, 40, (path, node.name))

    def test_words_that_stand_nowhere(self):
        for path in files():
            self.assertIsNone(WORDS_OUT.search(path.read_text(encoding="utf-8")), path)

    def test_python_warns_of_nothing(self):
        for path in files():
            with warnings.catch_warnings():
                warnings.simplefilter("error")
                compile(path.read_text(encoding="utf-8"), str(path), "exec")

    def test_forms_that_are_out(self):
        for path in files():
            for node in nodes(path):
                self.assertNotIsInstance(node, NODES_OUT, (path, getattr(node, "lineno", 0)))
                if isinstance(node, ast.Constant):
                    self.assertNotIsInstance(node.value, (float, complex), path)
                    self.assertNotIn("%", str(node.value), path)
                if isinstance(node, (ast.FunctionDef, ast.ClassDef)):
                    self.assertEqual(node.decorator_list, [], path)
                if isinstance(node, ast.arguments):
                    self.assertEqual((node.vararg, node.kwarg, node.posonlyargs), (None, None, []), path)
                if isinstance(node, (ast.For, ast.While)):
                    self.assertEqual(node.orelse, [], path)

    def test_is_stands_beside_none_true_and_false_alone(self):
        for path in files():
            for node in nodes(path):
                if isinstance(node, ast.Compare) and any(isinstance(op, (ast.Is, ast.IsNot)) for op in node.ops):
                    beside = node.comparators[-1]
                    self.assertTrue(isinstance(beside, ast.Constant) and beside.value in (None, True, False), path)

    def test_imports_are_the_packages_own(self):
        for path in files():
            for node in nodes(path):
                if isinstance(node, ast.ImportFrom):
                    self.assertEqual(node.level, 0, path)
                    self.assertRegex(node.module, r"\Alentgate\.[a-z0-9_]+\Z", path)
                    self.assertNotIn("*", [alias.name for alias in node.names], path)

    def test_names(self):
        own = set(dir(builtins))
        for path in files():
            tree = nodes(path)
            for name in given_names(tree):
                self.assertTrue(name in OWN_METHODS or not name.startswith("_"), (path, name))
                self.assertNotIn(name, own, path)
            for node in tree:
                if isinstance(node, ast.Name) and node.id in own:
                    self.assertIn(node.id, OWN_NAMES, path)

    def test_each_name_once_at_the_top(self):
        for path in files():
            top = ast.parse(path.read_text(encoding="utf-8")).body
            bound = []
            for node in top:
                self.assertIsInstance(
                    node, (ast.Expr, ast.ImportFrom, ast.FunctionDef, ast.ClassDef, ast.Assign), path)
                if isinstance(node, ast.ImportFrom):
                    bound += [alias.name for alias in node.names]
                elif isinstance(node, ast.Assign):
                    bound += [target.id for target in node.targets]
                elif isinstance(node, (ast.FunctionDef, ast.ClassDef)):
                    bound.append(node.name)
            self.assertEqual(sorted(bound), sorted(set(bound)), path)

    def test_methods_and_values_of_objects(self):
        methods, values, asked = set(), set(), set()
        for path in files():
            for node in nodes(path):
                if isinstance(node, ast.ClassDef):
                    own = [row.name for row in node.body if isinstance(row, ast.FunctionDef)]
                    self.assertEqual(sorted(own), sorted(set(own)), path)
                    methods |= set(own) - OWN_METHODS
                if isinstance(node, ast.Attribute):
                    (asked if isinstance(node.ctx, ast.Load) else values).add(node.attr)
        self.assertEqual(methods & values, set())
        self.assertEqual(asked - values - methods - FREE_METHODS, set())
        taken = {name for kind in (str, int, list, dict, set, bytes, tuple) for name in dir(kind)}
        self.assertEqual((methods | values) & taken, set())

    def test_no_two_files_draw_from_one_another(self):
        draws = {}
        for path in files():
            rows = [node for node in nodes(path) if isinstance(node, ast.ImportFrom)]
            draws[f"lentgate.{path.stem}"] = {row.module for row in rows}
        while draws:
            leaves = {name for name in draws if not draws[name] & set(draws)}
            self.assertTrue(leaves, draws)
            draws = {name: drawn for name, drawn in draws.items() if name not in leaves}


if __name__ == "__main__":
    unittest.main()
