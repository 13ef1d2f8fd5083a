"""The rules of LANGUAGE.md that a walk over the package's files can see; the others are for a reader."""

import ast
import builtins
import re
import unittest
from pathlib import Path

PACKAGE = Path(__file__).resolve().parent.parent / "mixbench"
FILES = sorted(PACKAGE.rglob("*.py"))

# L8, less chr (L27), and print, which is for __main__.py alone.
BUILT_IN = set("""len range enumerate zip min max sum abs sorted reversed int str bool list tuple dict set frozenset
isinstance ord repr any all divmod Exception ValueError TypeError KeyError IndexError LookupError ZeroDivisionError
ArithmeticError OverflowError RuntimeError NotImplementedError AttributeError StopIteration""".split())
# L25
METHODS = set("""append clear copy count endswith extend find get index insert isalnum isalpha isdigit islower isspace
isupper items join keys ljust lower lstrip partition pop remove replace reverse rfind rjust rpartition rsplit rstrip
setdefault split splitlines startswith strip update upper values zfill bit_length""".split())
TWO_UNDERSCORES = {"__init__", "__eq__", "__repr__", "__str__", "__len__"}
# L17
WORDS = re.compile(r"""\b(type|typing|typing_extensions|enum|Enum|IntEnum|StrEnum|Flag|IntFlag|Generic|Protocol|ABC
|ABCMeta|namedtuple|NamedTuple|TypedDict|TYPE_CHECKING|abstractmethod)\b|dataclass|overload|contextmanager""", re.X)
# L4, L6, L7
OUTSIDE = (ast.With, ast.Match, ast.Delete, ast.Global, ast.Nonlocal, ast.Assert, ast.Yield, ast.YieldFrom, ast.Await,
           ast.AsyncFor, ast.AsyncWith, ast.AsyncFunctionDef, ast.NamedExpr, ast.Starred, ast.SetComp, ast.DictComp,
           ast.GeneratorExp, ast.Div, ast.MatMult, ast.AnnAssign, ast.Import)
# L17
NOWHERE = {"register", "mro", "elements", "open", "input", "version_info", "with_traceback", "add_note"}
# L26
VALUES = {"count", "index", "title", "find", "get", "join", "lower", "upper", "split", "strip", "copy", "add"}
PYTHONS = {name for kind in (str, int, list, dict, set, bytes, tuple) for name in dir(kind) if name[:2] != "__"}
# L22
KEYWORDS = {"sorted": {"key", "reverse"}, "min": {"key", "default"}, "max": {"key", "default"}, "sum": {"start"},
            "enumerate": {"start"}, "zip": {"strict"}}


def nodes_of(path, *kinds):
    return [node for node in ast.walk(ast.parse(path.read_text())) if isinstance(node, kinds)]


def defined_in(path):
    names = []
    for node in ast.parse(path.read_text()).body:
        if isinstance(node, (ast.FunctionDef, ast.ClassDef)):
            names.append(node.name)
        if isinstance(node, ast.Assign):
            names.append(node.targets[0].id)
    return names


def drawn_from(path):
    return [PACKAGE / (node.module.split(".")[1] + ".py") for node in nodes_of(path, ast.ImportFrom)]


def own_methods():
    classes = [node for path in FILES for node in nodes_of(path, ast.ClassDef)]
    return {one.name for node in classes for one in node.body if isinstance(one, ast.FunctionDef)}


def own_values():
    attributes = [node for path in FILES for node in nodes_of(path, ast.Attribute)]
    return {node.attr for node in attributes if isinstance(node.ctx, ast.Store)}


class Language(unittest.TestCase):
    def check(self, path, node, holds, rule):
        self.assertTrue(holds, f"{path.name}:{getattr(node, 'lineno', 1)}: {rule}")

    def test_files_and_signs(self):
        self.assertIn("__init__.py", [path.name for path in FILES])
        others = [path.name for path in PACKAGE.iterdir() if path.suffix != ".py" and path.name != "__pycache__"]
        self.assertEqual(others, [], "L1")
        for path in FILES:
            text = path.read_bytes().decode("ascii")
            self.check(path, None, re.fullmatch(r"[a-z0-9_]+\.py", path.name), "L14 file name")
            self.check(path, None, re.fullmatch(r"[ -~\n]*", text), "L14 signs")
            self.check(path, None, not WORDS.search(text), "L17 words")
            self.check(path, None, text.count("\n") <= 400, "L10 file")
            self.check(path, None, all(len(line) <= 120 for line in text.split("\n")), "L10 line")

    def test_statements_and_expressions(self):
        for path in FILES:
            for node in nodes_of(path, ast.AST):
                self.check(path, node, not isinstance(node, OUTSIDE), "L2, L4, L6, L7")
                if isinstance(node, (ast.For, ast.While)):
                    self.check(path, node, not node.orelse, "L6 else behind a loop")
                if isinstance(node, ast.Try):
                    self.check(path, node, not node.finalbody, "L6 finally")
                if isinstance(node, ast.Assign):
                    self.check(path, node, len(node.targets) == 1, "L6 one target")
                if isinstance(node, ast.Constant):
                    self.check(path, node, not isinstance(node.value, (float, bytes, complex)), "L7 values")
                if isinstance(node, ast.Constant) and isinstance(node.value, str):
                    self.check(path, node, "%" not in node.value, "L27 texts")

    def test_imports(self):
        for path in FILES:
            top = ast.parse(path.read_text()).body
            for node in nodes_of(path, ast.ImportFrom):
                self.check(path, node, node.level == 0 and node.module.startswith("mixbench."), "L2 module")
                self.check(path, node, all(name.name != "*" for name in node.names), "L2 star")
                self.check(path, node, node.lineno in [one.lineno for one in top], "L2 at the top")

    def test_functions(self):
        for path in FILES:
            for node in nodes_of(path, ast.FunctionDef):
                given = node.args
                self.check(path, node, node.end_lineno - node.lineno < 40, "L10 function")
                self.check(path, node, not (given.vararg or given.kwarg or given.kwonlyargs), "L4 parameters")
                self.check(path, node, not node.decorator_list, "L4 decorator")
                self.check(path, node, node.name in TWO_UNDERSCORES or node.name[0] != "_", "L12")

    def test_names(self):
        for path in FILES:
            for node in nodes_of(path, ast.Name, ast.arg):
                name = node.id if isinstance(node, ast.Name) else node.arg
                self.check(path, node, re.fullmatch(r"[A-Za-z][A-Za-z0-9_]*", name), "L12")
                if isinstance(node, ast.Name) and isinstance(node.ctx, ast.Load):
                    self.check(path, node, name in BUILT_IN or not hasattr(builtins, name), "L8")
                else:
                    self.check(path, node, not hasattr(builtins, name), "L15")

    def test_methods(self):
        own = {node.name for path in FILES for node in nodes_of(path, ast.FunctionDef)}
        for path in FILES:
            for node in nodes_of(path, ast.Call):
                if isinstance(node.func, ast.Attribute):
                    self.check(path, node, node.func.attr in METHODS | own | TWO_UNDERSCORES, "L25")

    def test_top_of_a_module(self):
        for path in FILES:
            for at, node in enumerate(ast.parse(path.read_text()).body):
                plain = isinstance(node, (ast.ImportFrom, ast.FunctionDef, ast.ClassDef, ast.Assign))
                self.check(path, node, plain or (at == 0 and isinstance(node, ast.Expr)), "L3")
            names = defined_in(path) + [one.name for node in nodes_of(path, ast.ImportFrom) for one in node.names]
            self.check(path, None, len(names) == len(set(names)), "L15 each name once")

    def test_names_are_drawn_from_where_they_are_defined(self):
        for path in FILES:
            for node, drawn in zip(nodes_of(path, ast.ImportFrom), drawn_from(path)):
                for one in node.names:
                    self.check(path, node, one.asname is None and one.name in defined_in(drawn), "L16")

    def test_no_two_files_draw_from_one_another(self):
        for path in FILES:
            seen = drawn_from(path)
            for drawn in seen:
                self.check(path, None, drawn != path, "L16 a ring of imports")
                seen.extend(one for one in drawn_from(drawn) if one not in seen)

    def test_locals_bear_names_of_their_own(self):
        for path in FILES:
            taken = [node.name for node in nodes_of(path, ast.ClassDef)]
            taken += [one.name for node in nodes_of(path, ast.ImportFrom) for one in node.names]
            for node in nodes_of(path, ast.Name, ast.arg):
                if isinstance(node, ast.arg) or isinstance(node.ctx, ast.Store):
                    self.check(path, node, (node.arg if isinstance(node, ast.arg) else node.id) not in taken, "L15")

    def test_own_methods_and_values(self):
        self.assertEqual(own_methods() & own_values(), set(), "L18")
        self.assertEqual(own_values() & (PYTHONS | {"args"}) - VALUES, set(), "L26 values")
        self.assertEqual(own_methods() & PYTHONS - METHODS - {"add", "discard"}, set(), "L26 methods")
        for path in FILES:
            for node in nodes_of(path, ast.Attribute):
                self.check(path, node, node.attr not in NOWHERE | {"format", "format_map"}, "L8, L17")
                if isinstance(node.ctx, ast.Store):
                    self.check(path, node, isinstance(node.value, ast.Name), "L18 through a local name")
            for node in nodes_of(path, ast.ClassDef):
                names = [one.name for one in node.body if isinstance(one, ast.FunctionDef)]
                self.check(path, node, len(names) == len(set(names)), "L18 no method twice")
                self.check(path, node, len(node.bases) <= 1 and not node.keywords, "L5")

    def test_numbers_and_texts(self):
        for path in FILES:
            for node in nodes_of(path, ast.BinOp, ast.AugAssign):
                if isinstance(node.op, ast.Pow):
                    given = node.right if isinstance(node, ast.BinOp) else node.value
                    written = isinstance(given, ast.Constant) and given.value in range(65)
                    self.check(path, node, written, "L27")
            for node in nodes_of(path, ast.FormattedValue):
                self.check(path, node, isinstance(node.value, ast.Name) and node.format_spec is None, "L7")

    def test_comparisons_calls_and_errors(self):
        for path in FILES:
            for node in nodes_of(path, ast.Compare):
                for op, beside in zip(node.ops, node.comparators):
                    named = isinstance(beside, ast.Constant) and beside.value in (None, True, False)
                    self.check(path, node, not isinstance(op, (ast.Is, ast.IsNot)) or named, "L20")
            for node in nodes_of(path, ast.Call):
                name = node.func.id if isinstance(node.func, ast.Name) else ""
                if name in BUILT_IN:
                    self.check(path, node, {one.arg for one in node.keywords} <= KEYWORDS.get(name, set()), "L22")
                self.check(path, node, name not in ("set", "frozenset"), "L24: none is used")
            for node in nodes_of(path, ast.ExceptHandler):
                self.check(path, node, isinstance(node.type, ast.Name) and node.type.id not in BUILT_IN, "L19")
            for node in nodes_of(path, ast.Raise):
                self.check(path, node, isinstance(node.exc, ast.Call), "L19 made on the spot")

    def test_walks(self):
        for path in FILES:
            for node in nodes_of(path, ast.comprehension):
                self.check(path, node, len(node.ifs) <= 1, "L7")
            for node in nodes_of(path, ast.ListComp):
                self.check(path, node, len(node.generators) == 1, "L7")
            for node in nodes_of(path, ast.For):
                walked = ast.unparse(node.iter)
                for one in ast.walk(ast.Module(node.body, [])):
                    if isinstance(one, ast.Call) and isinstance(one.func, ast.Attribute):
                        self.check(path, one, ast.unparse(one.func.value) != walked, "L23")
                    if isinstance(one, ast.Subscript) and isinstance(one.ctx, ast.Store):
                        self.check(path, one, ast.unparse(one.value) != walked, "L23")

    def test_methods_with_two_underscores(self):
        for path in FILES:
            for node in nodes_of(path, ast.FunctionDef):
                if node.name == "__init__":
                    given = [one for one in ast.walk(node) if isinstance(one, ast.Return)]
                    self.check(path, node, given == [], "L28")


if __name__ == "__main__":
    unittest.main()
