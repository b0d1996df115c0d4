"""The part of LANGUAGE.md that a walk through the package's files can see."""

import ast
import builtins
import re
import unittest
from pathlib import Path

PACKAGE = Path(__file__).resolve().parent.parent / "thirstwise"
FILES = sorted(PACKAGE.rglob("*.py"))
OWN_NAMES = set("""len range enumerate zip min max sum abs sorted reversed int str bool list tuple dict set frozenset
    isinstance ord repr any all divmod Exception ValueError TypeError KeyError IndexError LookupError ZeroDivisionError
    ArithmeticError OverflowError RuntimeError NotImplementedError AttributeError StopIteration print""".split())
BUILTINS = set(dir(builtins))
STATEMENTS = (ast.Assign, ast.AugAssign, ast.If, ast.While, ast.For, ast.Return, ast.Break, ast.Continue, ast.Pass,
              ast.Raise, ast.Try, ast.Expr, ast.FunctionDef, ast.ClassDef, ast.ImportFrom)
RULED_OUT = (ast.SetComp, ast.DictComp, ast.GeneratorExp, ast.NamedExpr, ast.Starred, ast.Div, ast.Yield)
OWN_METHODS = set("""append clear copy count endswith extend find get index insert isalnum isalpha isdigit islower
    isspace isupper items join keys ljust lower lstrip partition pop remove replace reverse rfind rjust rpartition
    rsplit rstrip setdefault split splitlines startswith strip update upper values zfill bit_length""".split())
METHODS_OF_PYTHON = set(dir(str)) | set(dir(int)) | set(dir(list)) | set(dir(dict)) | set(dir(set)) | set(dir(bytes))
WORDS = re.compile(r"\b(type|typing|typing_extensions|enum|Enum|IntEnum|StrEnum|Flag|IntFlag|Generic|Protocol|ABC|"
                   r"ABCMeta|namedtuple|NamedTuple|TypedDict|TYPE_CHECKING|abstractmethod)\b|"
                   r"dataclass|overload|contextmanager")


def places():
    found = []
    for path in FILES:
        for node in ast.walk(ast.parse(path.read_text(encoding="utf-8"))):
            line = getattr(node, "lineno", 0)
            found.append((f"{path.name}:{line}", node))
    return found


def bound_names(node):
    if isinstance(node, ast.Name) and isinstance(node.ctx, ast.Store):
        return [node.id]
    if isinstance(node, ast.arg):
        return [node.arg]
    return []


class LanguageTest(unittest.TestCase):

    def test_the_folder_holds_python_files_alone(self):
        others = [path.name for path in PACKAGE.iterdir() if path.suffix != ".py" and path.name != "__pycache__"]
        self.assertEqual(others, [])
        for path in FILES:
            self.assertRegex(path.name, r"^[a-z_][a-z0-9_]*\.py$")

    def test_signs_words_and_lengths(self):
        for path in FILES:
            with self.subTest(file=path.name):
                text = path.read_text(encoding="utf-8")
                self.assertRegex(text, r"\A[ -~\n]*\Z")
                self.assertIsNone(WORDS.search(text))
                self.assertLessEqual(len(text.split("\n")), 400)
                self.assertLessEqual(max(len(row) for row in text.split("\n")), 120)

    def test_statements_and_expressions(self):
        for place, node in places():
            if isinstance(node, ast.stmt):
                self.assertIsInstance(node, STATEMENTS, place)
            self.assertNotIsInstance(node, RULED_OUT, place)
            if isinstance(node, ast.Assign):
                self.assertEqual(len(node.targets), 1, place)
            if isinstance(node, (ast.For, ast.While)):
                self.assertEqual(node.orelse, [], place)
            if isinstance(node, ast.Constant):
                self.assertNotIsInstance(node.value, (float, bytes, complex), place)

    def test_is_stands_beside_none_true_and_false_alone(self):
        for place, node in places():
            if isinstance(node, ast.Compare) and isinstance(node.ops[0], (ast.Is, ast.IsNot)):
                self.assertIsInstance(node.comparators[0], ast.Constant, place)
                self.assertIn(node.comparators[0].value, (None, True, False), place)

    def test_errors_are_taken_by_their_own_names(self):
        for place, node in places():
            if isinstance(node, ast.ExceptHandler):
                self.assertIsInstance(node.type, ast.Name, place)
                self.assertNotIn(node.type.id, ("Exception", "TypeError"), place)
            if isinstance(node, ast.Raise):
                self.assertIsInstance(node.exc, ast.Call, place)

    def test_functions(self):
        for place, node in places():
            if isinstance(node, ast.FunctionDef):
                self.assertLessEqual(node.end_lineno - node.lineno + 1, 40, place)
                self.assertEqual(node.decorator_list, [], place)
                self.assertEqual((node.args.vararg, node.args.kwarg, node.args.kwonlyargs), (None, None, []), place)

    def test_imports_are_the_packages_own(self):
        for place, node in places():
            if isinstance(node, ast.ImportFrom):
                self.assertEqual(node.level, 0, place)
                self.assertIn(node.module, [f"thirstwise.{path.stem}" for path in FILES], place)
                self.assertNotIn("*", [name.name for name in node.names], place)

    def test_names(self):
        for place, node in places():
            for name in bound_names(node):
                self.assertFalse(name.startswith("_"), place)
                self.assertNotIn(name, BUILTINS, place)
            if isinstance(node, ast.Name) and node.id in BUILTINS:
                self.assertIn(node.id, OWN_NAMES, place)
            if isinstance(node, ast.Attribute) and node.attr in METHODS_OF_PYTHON and node.attr != "__init__":
                self.assertIn(node.attr, OWN_METHODS, place)

    def test_no_name_is_a_method_here_and_a_value_there(self):
        methods, values = set(), set()
        for place, node in places():
            if isinstance(node, ast.ClassDef):
                methods |= {part.name for part in node.body if isinstance(part, ast.FunctionDef)}
            if isinstance(node, ast.Attribute) and isinstance(node.ctx, ast.Store):
                values.add(node.attr)
        self.assertEqual(methods & values, set())

    def test_no_two_files_draw_from_one_another(self):
        drawn = {path.stem: set() for path in FILES}
        for path in FILES:
            for node in ast.walk(ast.parse(path.read_text(encoding="utf-8"))):
                if isinstance(node, ast.ImportFrom):
                    drawn[path.stem].add(node.module.split(".")[-1])
        while drawn:
            free = [stem for stem, others in drawn.items() if not others & set(drawn)]
            self.assertNotEqual(free, [], drawn)
            for stem in free:
                del drawn[stem]


if __name__ == "__main__":
    unittest.main()
