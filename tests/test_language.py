"""The rules of LANGUAGE.md that a walk over the package's files can see; the others are for a reader."""

import ast
import builtins
import re
import unittest
from pathlib import Path

PACKAGE = Path(__file__).resolve().parent.parent / "mixbench"
FILES = sorted(PACKAGE.rglob("*.py"))

# L8, less chr (L27), and print, which is for __main__.py alone.
BUILT_IN = set("""len range enumerate zip min max sum abs sorted reversed int str bool list tuple dict set frozenset
isinstance ord repr any all divmod Exception ValueError TypeError KeyError IndexError LookupError ZeroDivisionError
ArithmeticError OverflowError RuntimeError NotImplementedError AttributeError StopIteration""".split())
# L25
METHODS = set("""append clear copy count endswith extend find get index insert isalnum isalpha isdigit islower isspace
isupper items join keys ljust lower lstrip partition pop remove replace reverse rfind rjust rpartition rsplit rstrip
setdefault split splitlines startswith strip update upper values zfill bit_length""".split())
TWO_UNDERSCORES = {"__init__", "__eq__", "__repr__", "__str__", "__len__"}
# L17
WORDS = re.compile(r"""\b(type|typing|typing_extensions|enum|Enum|IntEnum|StrEnum|Flag|IntFlag|Generic|Protocol|ABC
|ABCMeta|namedtuple|NamedTuple|TypedDict|TYPE_CHECKING|abstractmethod)\b|dataclass|overload|contextmanager""", re.X)
# L4, L6, L7
OUTSIDE = (ast.With, ast.Match, ast.Delete, ast.Global, ast.Nonlocal, ast.Assert, ast.Yield, ast.YieldFrom, ast.Await,
           ast.AsyncFor, ast.AsyncWith, ast.AsyncFunctionDef, ast.NamedExpr, ast.Starred, ast.SetComp, ast.DictComp,
           ast.GeneratorExp, ast.Div, ast.MatMult, ast.AnnAssign, ast.Import)


def nodes_of(path, *kinds):
    return [node for node in ast.walk(ast.parse(path.read_text())) if isinstance(node, kinds)]


class Language(unittest.TestCase):
    def check(self, path, node, holds, rule):
        self.assertTrue(holds, f"{path.name}:{getattr(node, 'lineno', 1)}: {rule}")

    def test_files_and_signs(self):
        self.assertIn("__init__.py", [path.name for path in FILES])
        others = [path.name for path in PACKAGE.iterdir() if path.suffix != ".py" and path.name != "__pycache__"]
        self.assertEqual(others, [], "L1")
        for path in FILES:
            text = path.read_bytes().decode("ascii")
            self.check(path, None, re.fullmatch(r"[a-z0-9_]+\.py", path.name), "L14 file name")
            self.check(path, None, re.fullmatch(r"[ -~\n]*", text), "L14 signs")
            self.check(path, None, not WORDS.search(text), "L17 words")
            self.check(path, None, text.count("\n") <= 400, "L10 file")
            self.check(path, None, all(len(line) <= 120 for line in text.split("\n")), "L10 line")

    def test_statements_and_expressions(self):
        for path in FILES:
            for node in nodes_of(path, ast.AST):
                self.check(path, node, not isinstance(node, OUTSIDE), "L2, L4, L6, L7")
                if isinstance(node, (ast.For, ast.While)):
                    self.check(path, node, not node.orelse, "L6 else behind a loop")
                if isinstance(node, ast.Try):
                    self.check(path, node, not node.finalbody, "L6 finally")
                if isinstance(node, ast.Assign):
                    self.check(path, node, len(node.targets) == 1, "L6 one target")
                if isinstance(node, ast.Constant):
                    self.check(path, node, not isinstance(node.value, (float, bytes, complex)), "L7 values")
                if isinstance(node, ast.Constant) and isinstance(node.value, str):
                    self.check(path, node, "%" not in node.value, "L27 texts")

    def test_imports(self):
        for path in FILES:
            top = ast.parse(path.read_text()).body
            for node in nodes_of(path, ast.ImportFrom):
                self.check(path, node, node.level == 0 and node.module.startswith("mixbench."), "L2 module")
                self.check(path, node, all(name.name != "*" for name in node.names), "L2 star")
                self.check(path, node, node.lineno in [one.lineno for one in top], "L2 at the top")

    def test_functions(self):
        for path in FILES:
            for node in nodes_of(path, ast.FunctionDef):
                given = node.args
                self.check(path, node, node.end_lineno - node.lineno < 40, "L10 function")
                self.check(path, node, not (given.vararg or given.kwarg or given.kwonlyargs), "L4 parameters")
                self.check(path, node, not node.decorator_list, "L4 decorator")
                self.check(path, node, node.name in TWO_UNDERSCORES or node.name[0] != "_", "L12")

    def test_names(self):
        for path in FILES:
            for node in nodes_of(path, ast.Name, ast.arg):
                name = node.id if isinstance(node, ast.Name) else node.arg
                self.check(path, node, re.fullmatch(r"[A-Za-z][A-Za-z0-9_]*", name), "L12")
                if isinstance(node, ast.Name) and isinstance(node.ctx, ast.Load):
                    self.check(path, node, name in BUILT_IN or not hasattr(builtins, name), "L8")
                else:
                    self.check(path, node, not hasattr(builtins, name), "L15")

    def test_methods(self):
        own = {node.name for path in FILES for node in nodes_of(path, ast.FunctionDef)}
        for path in FILES:
            for node in nodes_of(path, ast.Call):
                if isinstance(node.func, ast.Attribute):
                    self.check(path, node, node.func.attr in METHODS | own | TWO_UNDERSCORES, "L25")


if __name__ == "__main__":
    unittest.main()
