"""Those rules of ../shared/LANGUAGE.md that a look at the package's files can tell; the rest is for the reader."""

import ast
import builtins
import re
import unittest
from pathlib import Path

PACKAGE = Path(__file__).resolve().parent.parent / "relaid"

PLAIN = re.compile(r"[a-z][a-z0-9_]*")
OWN_METHODS = ("__init__", "__eq__", "__repr__", "__str__", "__len__")
OWN_NAMES = ("__all__", "__version__", "__name__")
WORDS = re.compile(r"\b(type|typing|typing_extensions|enum|Enum|IntEnum|StrEnum|Flag|IntFlag|Generic|Protocol|ABC|"
                   r"ABCMeta|namedtuple|NamedTuple|TypedDict|TYPE_CHECKING|abstractmethod)\b|"
                   r"dataclass|overload|contextmanager")
BUILT_IN = set("""len range enumerate zip min max sum abs sorted reversed int str bool list tuple dict set frozenset
    isinstance ord repr any all divmod Exception ValueError TypeError KeyError IndexError LookupError
    ZeroDivisionError ArithmeticError OverflowError RuntimeError NotImplementedError AttributeError StopIteration
    """.split())
METHODS = set("""append clear copy count endswith extend find get index insert isalnum isalpha isdigit islower isspace
    isupper items join keys ljust lower lstrip partition pop remove replace reverse rfind rjust rpartition rsplit
    rstrip setdefault split splitlines startswith strip update upper values zfill bit_length""".split())
NO_VALUES = set("""items keys values pop update append clear extend insert remove reverse setdefault sort args encode
    format""".split())
WALKED = ("zip", "enumerate", "reversed", "range")
WALKING = ("list", "tuple", "dict", "sorted", "sum", "any", "all", "enumerate", "zip", "min", "max")
OUT = (ast.With, ast.Match, ast.Delete, ast.Global, ast.Nonlocal, ast.Assert, ast.Yield, ast.YieldFrom, ast.Await,
       ast.AsyncFunctionDef, ast.AsyncFor, ast.AsyncWith, ast.SetComp, ast.DictComp, ast.GeneratorExp, ast.NamedExpr,
       ast.Starred, ast.Div, ast.MatMult, ast.Import)


def files():
    return [path for path in sorted(PACKAGE.rglob("*")) if path.is_file() and path.suffix != ".pyc"]


def trees():
    return [(path.name, ast.parse(path.read_text())) for path in files()]


def nodes(kind):
    return [(name, node) for name, tree in trees() for node in ast.walk(tree) if isinstance(node, kind)]


class Files(unittest.TestCase):
    def test_names(self):
        self.assertIn(PACKAGE / "__init__.py", files())
        for path in files():
            self.assertEqual(path.suffix, ".py", path)
            self.assertTrue(PLAIN.fullmatch(path.stem) or path.stem in ("__init__", "__main__"), path)

    def test_signs_and_sizes(self):
        for path in files():
            text = path.read_bytes().decode("ascii")
            self.assertTrue(all(sign == "\n" or " " <= sign <= "~" for sign in text), path)
            self.assertLessEqual(len(text.splitlines()), 400, path)
            self.assertLessEqual(max(map(len, text.splitlines()), default=0), 120, path)
            self.assertIsNone(WORDS.search(text), path)

    def test_size_of_functions(self):
        for name, node in nodes(ast.FunctionDef):
            self.assertLessEqual(node.end_lineno - node.lineno + 1, 40, (name, node.name))


class Imports(unittest.TestCase):
    def drawn(self):
        return {path.stem: [node.module for node in ast.walk(ast.parse(path.read_text()))
                            if isinstance(node, ast.ImportFrom)] for path in files()}

    def test_only_own_modules_by_full_names(self):
        defined = {path.stem for path in files()}
        for name, modules in self.drawn().items():
            for module in modules:
                self.assertTrue(module.startswith("relaid.") and module[7:] in defined, (name, module))

    def test_no_two_files_draw_from_one_another(self):
        drawn = {name: [module[7:] for module in modules] for name, modules in self.drawn().items()}
        while drawn:
            ready = [name for name in drawn if not any(module in drawn for module in drawn[name])]
            self.assertNotEqual(ready, [], drawn)
            drawn = {name: drawn[name] for name in drawn if name not in ready}


class Code(unittest.TestCase):
    def test_nothing_that_is_out(self):
        for name, node in nodes(OUT):
            self.fail((name, node.lineno, ast.dump(node)))

    def test_statements(self):
        for name, node in nodes((ast.For, ast.While)):
            self.assertEqual(node.orelse, [], (name, node.lineno))
        for name, node in nodes(ast.Try):
            self.assertEqual(node.finalbody, [], (name, node.lineno))
        for name, node in nodes(ast.Assign):
            self.assertEqual(len(node.targets), 1, (name, node.lineno))

    def test_errors_taken_are_the_programs_own(self):
        own = {node.name for name, node in nodes(ast.ClassDef) if name == "errors.py"}
        for name, node in nodes(ast.ExceptHandler):
            self.assertIsInstance(node.type, ast.Name, (name, node.lineno))
            self.assertIn(node.type.id, own, (name, node.lineno))

    def test_sets_are_made_and_used_up_at_once(self):
        for name, tree in trees():
            used = set()
            for node in ast.walk(tree):
                if isinstance(node, ast.Call) and isinstance(node.func, ast.Name) and node.func.id in ("sorted", "len"):
                    used |= set(node.args)
                if isinstance(node, ast.Compare):
                    used |= {node.left} | set(node.comparators)
            for node in ast.walk(tree):
                if isinstance(node, ast.Call) and isinstance(node.func, ast.Name) and node.func.id == "set":
                    self.assertIn(node, used, (name, node.lineno))

    def test_values(self):
        for name, node in nodes(ast.Constant):
            self.assertIn(type(node.value), (int, str, bool, type(None)), (name, node.lineno))

    def test_built_in_names(self):
        for name, node in nodes(ast.Name):
            if hasattr(builtins, node.id):
                self.assertIn(node.id, BUILT_IN, (name, node.lineno))
                self.assertIsInstance(node.ctx, ast.Load, (name, node.lineno))

    def test_plain_names(self):
        for name, node in nodes((ast.Name, ast.arg, ast.Attribute, ast.FunctionDef, ast.ClassDef)):
            called = [value for field, value in ast.iter_fields(node) if field in ("id", "arg", "attr", "name")][0]
            self.assertTrue(not called.startswith("_") or called in OWN_METHODS + OWN_NAMES, (name, called))

    def test_arguments_and_decorators(self):
        for name, node in nodes(ast.FunctionDef):
            self.assertEqual(node.decorator_list, [], name)
            told = node.args
            self.assertFalse(told.vararg or told.kwarg or told.kwonlyargs or told.posonlyargs, (name, node.name))

    def test_classes(self):
        for name, node in nodes(ast.ClassDef):
            self.assertEqual((node.decorator_list, node.keywords), ([], []), name)
            self.assertLessEqual(len(node.bases), 1, (name, node.name))
            self.assertFalse([part for part in node.body if isinstance(part, (ast.Assign, ast.AnnAssign))], node.name)

    def test_no_name_is_a_method_and_a_value(self):
        methods = {part.name for _, node in nodes(ast.ClassDef) for part in node.body
                   if isinstance(part, ast.FunctionDef)}
        values = {node.attr for _, node in nodes(ast.Attribute) if isinstance(node.ctx, ast.Store)}
        self.assertEqual(methods & values, set())
        self.assertEqual(values & NO_VALUES, set())

    def test_no_local_is_called_like_a_class_or_an_import(self):
        for name, tree in trees():
            taken = {node.name for node in tree.body if isinstance(node, ast.ClassDef)}
            for node in tree.body:
                if isinstance(node, ast.ImportFrom):
                    taken |= {part.asname or part.name for part in node.names}
            for node in ast.walk(tree):
                if isinstance(node, ast.arg):
                    self.assertFalse(node.arg in taken or hasattr(builtins, node.arg), (name, node.arg))
                if isinstance(node, ast.Name) and isinstance(node.ctx, ast.Store):
                    self.assertNotIn(node.id, taken, (name, node.lineno))

    def test_walked_at_once(self):
        for name, tree in trees():
            walked = set()
            for node in ast.walk(tree):
                if isinstance(node, (ast.For, ast.comprehension)):
                    walked.add(node.iter)
                if isinstance(node, ast.Call) and isinstance(node.func, ast.Name) and node.func.id in WALKING:
                    walked |= set(node.args)
            for node in ast.walk(tree):
                if isinstance(node, ast.Call) and isinstance(node.func, ast.Name) and node.func.id in WALKED:
                    self.assertIn(node, walked, (name, node.lineno))

    def test_called_methods(self):
        own = {node.name for _, node in nodes(ast.FunctionDef)}
        for name, node in nodes(ast.Call):
            if isinstance(node.func, ast.Attribute):
                self.assertIn(node.func.attr, own | METHODS | set(OWN_METHODS), (name, node.lineno))


if __name__ == "__main__":
    unittest.main()
