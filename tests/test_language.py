"""Holds the package to those rules of ../shared/LANGUAGE.md that can be seen file by file."""

import ast
import builtins
import pathlib
import re
import unittest

PACKAGE = pathlib.Path(__file__).resolve().parent.parent / "soundroad"

STATEMENTS = (ast.Assign, ast.AugAssign, ast.If, ast.While, ast.For, ast.Return, ast.Break, ast.Continue,
              ast.Pass, ast.Raise, ast.Try, ast.ImportFrom, ast.FunctionDef, ast.ClassDef, ast.Expr)
EXPRESSIONS = (ast.Constant, ast.Name, ast.List, ast.Tuple, ast.Dict, ast.Set, ast.BinOp, ast.UnaryOp, ast.BoolOp,
               ast.Compare, ast.IfExp, ast.Call, ast.Attribute, ast.Subscript, ast.Slice, ast.ListComp,
               ast.JoinedStr, ast.FormattedValue, ast.Lambda)
PYTHONS_OWN = set(
    "len range enumerate zip min max sum abs sorted reversed int str bool list tuple dict set frozenset isinstance "
    "ord repr any all divmod Exception ValueError TypeError KeyError IndexError LookupError ZeroDivisionError "
    "ArithmeticError OverflowError RuntimeError NotImplementedError AttributeError StopIteration".split())
PYTHONS_METHODS = set(
    "append clear copy count endswith extend find get index insert isalnum isalpha isdigit islower isspace isupper "
    "items join keys ljust lower lstrip partition pop remove replace reverse rfind rjust rpartition rsplit rstrip "
    "setdefault split splitlines startswith strip update upper values zfill bit_length".split())
WORDS_OUT = re.compile(
    r"\b(type|typing|typing_extensions|enum|Enum|IntEnum|StrEnum|Flag|IntFlag|Generic|Protocol|ABC|ABCMeta|"
    r"namedtuple|NamedTuple|TypedDict|TYPE_CHECKING|abstractmethod)\b|dataclass|overload|contextmanager")
VALUES_OUT = set("items keys values pop update append clear extend insert remove reverse setdefault sort args encode "
                 "format".split())
WALKED_AT_ONCE = ("zip", "enumerate", "reversed", "range", "items", "keys", "values")
DOUBLE_UNDERSCORES = ("__init__", "__eq__", "__repr__", "__str__", "__len__")


def sources():
    return [(path, path.read_bytes().decode("utf-8")) for path in sorted(PACKAGE.rglob("*.py"))]


def walked():
    return [(path, node) for path, text in sources() for node in ast.walk(ast.parse(text))]


def bound_names(node):
    if isinstance(node, (ast.FunctionDef, ast.ClassDef)):
        return [node.name]
    if isinstance(node, ast.Name) and isinstance(node.ctx, ast.Store):
        return [node.id]
    if isinstance(node, ast.arg):
        return [node.arg]
    return []


class Language(unittest.TestCase):
    def assert_none(self, faults):
        self.assertEqual(faults, [])

    def test_files(self):
        rest = [path for path in PACKAGE.rglob("*") if "__pycache__" not in path.parts]
        self.assertIn(PACKAGE / "__init__.py", rest)
        self.assert_none([path for path in rest if not re.fullmatch(r"[a-z0-9_]+\.py", path.name)])

    def test_signs_words_and_sizes(self):
        for path, text in sources():
            self.assertRegex(text, r"\A[ -~\n]*\Z", path)
            self.assertIsNone(WORDS_OUT.search(text), path)
            lines = text.split("\n")
            self.assertLessEqual(len(lines), 400, path)
            self.assert_none([(path, line) for line in lines if len(line) > 120])

    def test_functions_are_short_and_plain(self):
        for path, node in walked():
            if isinstance(node, ast.FunctionDef):
                where = (path, node.name)
                self.assertLessEqual(node.end_lineno - node.lineno + 1, 40, where)
                self.assert_none(node.decorator_list)
                self.assertIsNone(node.args.vararg or node.args.kwarg, where)
                self.assert_none(node.args.kwonlyargs + node.args.posonlyargs)

    def test_classes_hold_methods_alone(self):
        for path, node in walked():
            if isinstance(node, ast.ClassDef):
                self.assertLessEqual(len(node.bases), 1, (path, node.name))
                self.assert_none(node.decorator_list + node.keywords)
                self.assert_none([part for part in node.body if not isinstance(part, (ast.FunctionDef, ast.Pass))])

    def test_statements_and_expressions(self):
        for path, node in walked():
            if isinstance(node, ast.stmt):
                self.assertIsInstance(node, STATEMENTS, (path, node.lineno))
            if isinstance(node, ast.expr):
                self.assertIsInstance(node, EXPRESSIONS, (path, node.lineno))
            if isinstance(node, ast.Assign):
                self.assertEqual(len(node.targets), 1, (path, node.lineno))
            if isinstance(node, (ast.For, ast.While)):
                self.assert_none(node.orelse)
            if isinstance(node, ast.Constant):
                self.assertIn(type(node.value), (int, str, bool, type(None)), (path, node.lineno))
            self.assertNotIsInstance(node, ast.Div, path)

    def test_imports_are_of_the_package_alone(self):
        for path, node in walked():
            if isinstance(node, ast.ImportFrom):
                self.assertEqual(node.level, 0, path)
                self.assertRegex(node.module, r"\Asoundroad\.[a-z_]+\Z", path)
                self.assert_none([part.name for part in node.names if part.name == "*"])

    def test_names(self):
        for path, node in walked():
            if isinstance(node, ast.Name) and hasattr(builtins, node.id):
                self.assertIn(node.id, PYTHONS_OWN, (path, node.lineno))
            for name in bound_names(node):
                if name not in DOUBLE_UNDERSCORES:
                    self.assertFalse(hasattr(builtins, name), (path, name))
                    self.assertRegex(name, r"\A[A-Za-z][A-Za-z0-9_]*\Z", path)

    def test_methods(self):
        own = {node.name for path, node in walked() if isinstance(node, ast.FunctionDef)}
        for path, node in walked():
            if isinstance(node, ast.Call) and isinstance(node.func, ast.Attribute):
                self.assertIn(node.func.attr, PYTHONS_METHODS | own, (path, node.lineno))

    def test_values_of_objects(self):
        methods = {part.name for path, node in walked() if isinstance(node, ast.ClassDef)
                   for part in node.body if isinstance(part, ast.FunctionDef)}
        for path, node in walked():
            if isinstance(node, ast.Attribute):
                self.assertRegex(node.attr, r"\A[A-Za-z][A-Za-z0-9_]*\Z", (path, node.lineno))
                if isinstance(node.ctx, ast.Store):
                    self.assertNotIn(node.attr, methods | VALUES_OUT, (path, node.lineno))

    def test_is_stands_beside_none_and_truths(self):
        for path, node in walked():
            if isinstance(node, ast.Compare):
                for sign, value in zip(node.ops, node.comparators):
                    if isinstance(sign, (ast.Is, ast.IsNot)):
                        self.assertIsInstance(value, ast.Constant, (path, node.lineno))
                        self.assertIn(value.value, (None, True, False), (path, node.lineno))

    def test_what_is_walked_is_not_kept(self):
        for path, node in walked():
            if isinstance(node, (ast.Assign, ast.Return)) and isinstance(node.value, ast.Call):
                name = getattr(node.value.func, "id", getattr(node.value.func, "attr", ""))
                self.assertNotIn(name, WALKED_AT_ONCE, (path, node.lineno))

    def test_names_of_a_file_are_bound_once_to_plain_values(self):
        for path, text in sources():
            names = []
            for node in ast.parse(text).body:
                self.assertIsInstance(node, (ast.Expr, ast.ImportFrom, ast.FunctionDef, ast.ClassDef, ast.Assign))
                if isinstance(node, ast.Assign):
                    ast.literal_eval(node.value)
                    names.append(node.targets[0].id)
                names += [node.name] if isinstance(node, (ast.FunctionDef, ast.ClassDef)) else []
                names += [part.name for part in getattr(node, "names", [])]
            self.assertEqual(len(names), len(set(names)), path)

    def test_imports_name_the_file_that_defines_and_go_no_rounds(self):
        draws = {}
        for path, text in sources():
            imports = [node for node in ast.parse(text).body if isinstance(node, ast.ImportFrom)]
            draws[path.stem] = {node.module.split(".")[1] for node in imports}
            for node in imports:
                defined = (PACKAGE / (node.module.split(".")[1] + ".py")).read_text()
                for part in node.names:
                    self.assertRegex(defined, rf"(?m)^(def |class )?{part.name}\b", path)
        while draws:
            free = [name for name in draws if not draws[name]]
            self.assertNotEqual(free, [], draws)
            draws = {name: draws[name] - set(free) for name in draws if name not in free}


if __name__ == "__main__":
    unittest.main()
