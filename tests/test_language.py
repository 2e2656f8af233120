"""The package keeps to a small part of Python: what of LANGUAGE.md can be seen file by file."""

import ast
import builtins
import pathlib
import re
import unittest

PACKAGE = pathlib.Path(__file__).resolve().parent.parent / "eitheror"

NODES = """Module Expr ImportFrom alias FunctionDef ClassDef arguments arg Assign AugAssign If While For Return Break
Continue Pass Raise Try ExceptHandler Name Load Store Constant List Tuple Dict BinOp Add Sub Mult FloorDiv Mod
Compare Eq NotEq Lt LtE Gt GtE Is IsNot In NotIn BoolOp And Or UnaryOp Not USub IfExp Call keyword Attribute
Subscript Slice ListComp comprehension JoinedStr FormattedValue Lambda""".split()

OWN_NAMES = """len range enumerate zip min max sum abs sorted reversed int str bool list tuple dict set frozenset
isinstance ord repr any all divmod Exception ValueError KeyError IndexError LookupError ZeroDivisionError
StopIteration""".split()

OWN_METHODS = """append clear copy count endswith extend find get index insert isalnum isalpha isdigit islower isspace
isupper items join keys ljust lower lstrip partition pop remove replace reverse rfind rjust rpartition rsplit rstrip
setdefault split splitlines startswith strip update upper values zfill bit_length __init__""".split()

BARRED = re.compile(
    r"\b(type|typing|typing_extensions|enum|Enum|IntEnum|StrEnum|Flag|IntFlag|Generic|Protocol|ABC|ABCMeta|namedtuple"
    r"|NamedTuple|TypedDict|TYPE_CHECKING|abstractmethod|register|mro|elements|open|input)\b"
    r"|dataclass|overload|contextmanager")


def sources():
    return {path: path.read_text(encoding="utf-8") for path in sorted(PACKAGE.glob("*.py"))}


def nodes(kind=ast.AST):
    for path, text in sources().items():
        for node in ast.walk(ast.parse(text)):
            if isinstance(node, kind):
                yield path.name, node


def values_and_methods():
    values, methods = set(), set()
    for file, node in nodes(ast.ClassDef):
        for method in node.body:
            if isinstance(method, ast.FunctionDef):
                methods.add(method.name)
        for part in ast.walk(node):
            if isinstance(part, ast.Attribute) and isinstance(part.ctx, ast.Store):
                values.add(part.attr)
    return values, methods


class Language(unittest.TestCase):
    def test_files(self):
        self.assertTrue(sources())
        for path in PACKAGE.iterdir():
            if path.name != "__pycache__":
                self.assertRegex(path.name, r"^(__init__|[a-z][a-z0-9_]*)\.py$")

    def test_signs_and_sizes(self):
        for path, text in sources().items():
            self.assertRegex(text, r"\A[ -~\n]*\Z", path.name)
            self.assertIsNone(BARRED.search(text), path.name)
            self.assertLessEqual(len(text.splitlines()), 400, path.name)
            self.assertLessEqual(max(map(len, text.splitlines())), 120, path.name)
        for file, node in nodes(ast.FunctionDef):
            self.assertLessEqual(node.end_lineno - node.lineno + 1, 40, (file, node.name))

    def test_only_plain_statements_and_expressions(self):
        for file, node in nodes():
            self.assertIn(type(node).__name__, NODES, (file, getattr(node, "lineno", None)))
        for file, node in nodes(ast.Constant):
            self.assertIn(type(node.value), (int, str, bool, type(None)), (file, node.lineno))
        for file, node in nodes((ast.For, ast.While)):
            self.assertEqual(node.orelse, [], (file, node.lineno))
        for file, node in nodes(ast.ListComp):
            self.assertEqual(len(node.generators), 1, (file, node.lineno))
        for file, node in nodes((ast.FunctionDef, ast.ClassDef)):
            self.assertEqual(node.decorator_list, [], (file, node.lineno))

    def test_only_the_package_is_imported(self):
        for file, node in nodes(ast.ImportFrom):
            self.assertRegex(node.module, r"^eitheror\.[a-z]+$", file)
            self.assertEqual(node.level, 0, file)
            defining = (PACKAGE / (node.module.split(".")[1] + ".py")).read_text(encoding="utf-8")
            for alias in node.names:
                self.assertRegex(defining, rf"(?m)^(def {alias.name}\(|class {alias.name}\b|{alias.name} = )", file)

    def test_no_two_files_draw_from_one_another(self):
        drawn = {path.name: set() for path in sources()}
        for file, node in nodes(ast.ImportFrom):
            drawn[file].add(node.module.split(".")[1] + ".py")
        while drawn:
            free = [file for file in drawn if not drawn[file] & set(drawn)]
            self.assertTrue(free, drawn)
            for file in free:
                drawn.pop(file)

    def test_is_stands_beside_none_and_truths_alone(self):
        for file, node in nodes(ast.Compare):
            if isinstance(node.ops[0], (ast.Is, ast.IsNot)):
                self.assertIsInstance(node.comparators[0], ast.Constant, (file, node.lineno))
                self.assertIn(node.comparators[0].value, (None, True, False), (file, node.lineno))

    def test_sets_stand_straight_within_sorted_or_len(self):
        made = [(file, call) for file, call in nodes(ast.Call) if getattr(call.func, "id", None) == "set"]
        within = [(file, call.args[0].lineno, call.args[0].col_offset) for file, call in nodes(ast.Call)
                  if getattr(call.func, "id", None) in ("sorted", "len") and not call.keywords]
        for file, call in made:
            self.assertIn((file, call.lineno, call.col_offset), within)

    def test_only_listed_names_of_python(self):
        for file, node in nodes(ast.Name):
            self.assertNotRegex(node.id, "^_", (file, node.lineno))
            if hasattr(builtins, node.id):
                self.assertIn(node.id, OWN_NAMES, (file, node.lineno))
                self.assertIsInstance(node.ctx, ast.Load, (file, node.lineno))
        for file, node in nodes(ast.arg):
            self.assertFalse(hasattr(builtins, node.arg) or node.arg.startswith("_"), (file, node.lineno))

    def test_only_listed_methods_of_python(self):
        values, methods = values_and_methods()
        self.assertEqual(values & methods, set())
        for file, node in nodes(ast.Attribute):
            self.assertIn(node.attr, values | methods | set(OWN_METHODS), (file, node.lineno))


if __name__ == "__main__":
    unittest.main()
