"""The files of the package keep the rules of the language that a short look can see."""

import ast
import pathlib
import re
import unittest

PACKAGE = pathlib.Path(__file__).resolve().parent.parent / "namelesshall"
FILES = sorted(PACKAGE.glob("*.py"))

BUILTINS = set(
    "len range enumerate zip min max sum abs sorted reversed int str bool bytes list tuple dict set "
    "isinstance ord repr any all divmod ValueError KeyError IndexError LookupError "
    "ZeroDivisionError ArithmeticError OverflowError RuntimeError TypeError super".split()
)
METHODS = set(
    "append clear copy count endswith extend find get index insert isalnum isalpha isdigit islower "
    "isspace isupper items join keys ljust lower lstrip partition pop remove replace reverse rfind "
    "rjust rpartition rsplit rstrip setdefault split splitlines startswith strip update upper values "
    "zfill bit_length add discard sort".split()
)
BARRED_NODES = (
    ast.Global, ast.AsyncFunctionDef, ast.AsyncFor, ast.AsyncWith, ast.Await, ast.Div, ast.Import,
    ast.MatMult,
)
BARRED_WORDS = re.compile(
    r"\b(type|typing|typing_extensions|enum|Enum|IntEnum|StrEnum|Flag|IntFlag|Generic|Protocol|ABC|"
    r"ABCMeta|namedtuple|NamedTuple|TypedDict|TYPE_CHECKING|abstractmethod)\b"
    r"|dataclass|overload|contextmanager"
)


def trees():
    """Each file with what Python makes of it."""
    return [(file.name, ast.parse(file.read_text())) for file in FILES]


def nodes():
    """Each part of each file."""
    return [(name, node) for name, tree in trees() for node in ast.walk(tree)]


class Files(unittest.TestCase):
    def test_l1_the_folder_holds_nothing_else(self):
        there = [path.name for path in PACKAGE.iterdir() if path.name != "__pycache__"]
        self.assertEqual(sorted(there), [file.name for file in FILES])
        self.assertIn("__init__.py", there)

    def test_l10_sizes(self):
        for file in FILES:
            lines = file.read_text().split("\n")
            self.assertLessEqual(len(lines), 400, file.name)
            self.assertLessEqual(max(len(line) for line in lines), 120, file.name)
        for name, node in nodes():
            if isinstance(node, ast.FunctionDef):
                self.assertLessEqual(node.end_lineno - node.lineno + 1, 40, (name, node.name))

    def test_l14_signs(self):
        for file in FILES:
            for sign in file.read_bytes():
                self.assertTrue(sign == 10 or 32 <= sign <= 126, (file.name, sign))

    def test_l17_words(self):
        for file in FILES:
            self.assertIsNone(BARRED_WORDS.search(file.read_text()), file.name)


class Parts(unittest.TestCase):
    def test_l2_imports_are_from_the_package(self):
        for name, node in nodes():
            if isinstance(node, ast.ImportFrom):
                self.assertEqual(node.level, 0, name)
                self.assertTrue(node.module.startswith("namelesshall."), (name, node.module))

    def test_l3_module_level(self):
        for name, tree in trees():
            for node in tree.body[1:]:
                self.assertIsInstance(
                    node, (ast.ImportFrom, ast.FunctionDef, ast.ClassDef, ast.Assign), name)

    def test_l6_l7_barred_parts(self):
        for name, node in nodes():
            self.assertNotIsInstance(node, BARRED_NODES, name)
            if isinstance(node, ast.Constant):
                self.assertNotIsInstance(node.value, (float, complex), name)

    def test_l8_builtins(self):
        for name, tree in trees():
            known = set(BUILTINS)
            for node in ast.walk(tree):
                if isinstance(node, (ast.FunctionDef, ast.ClassDef)):
                    known.add(node.name)
                if isinstance(node, ast.ImportFrom):
                    known.update(alias.asname or alias.name for alias in node.names)
                if isinstance(node, ast.arg):
                    known.add(node.arg)
                if isinstance(node, ast.Name) and isinstance(node.ctx, ast.Store):
                    known.add(node.id)
            used = {node.id for node in ast.walk(tree) if isinstance(node, ast.Name)}
            self.assertEqual(used - known, set(), name)

    def test_l12_names(self):
        for name, node in nodes():
            for field in ("id", "name", "attr", "arg"):
                word = getattr(node, field, None)
                if isinstance(word, str) and not re.fullmatch("__[a-z]+__", word):
                    self.assertFalse(word.startswith("_"), (name, word))

    def test_l20_is(self):
        for name, node in nodes():
            if isinstance(node, ast.Compare):
                for sign, side in zip(node.ops, node.comparators):
                    if isinstance(sign, (ast.Is, ast.IsNot)):
                        self.assertIn(getattr(side, "value", 0), (None, True, False), name)

    def test_l25_methods(self):
        own = {node.name for name, node in nodes() if isinstance(node, ast.FunctionDef)}
        for name, node in nodes():
            if isinstance(node, ast.Call) and isinstance(node.func, ast.Attribute):
                self.assertIn(node.func.attr, METHODS | own, name)

    def test_l27_percent_sign(self):
        for name, node in nodes():
            if isinstance(node, ast.Constant) and isinstance(node.value, str):
                self.assertNotIn("%", node.value, name)


if __name__ == "__main__":
    unittest.main()
