"""The files of the package keep the rules of the language that a short look can see."""

import ast
import builtins
import pathlib
import re
import unittest

PACKAGE = pathlib.Path(__file__).resolve().parent.parent / "namelesshall"
FILES = sorted(PACKAGE.glob("*.py"))

BUILTINS = set(
    "len range enumerate zip min max sum abs sorted reversed int str bool bytes list tuple dict set "
    "isinstance ord repr any all divmod ValueError KeyError IndexError LookupError "
    "ZeroDivisionError ArithmeticError OverflowError RuntimeError TypeError super".split()
)
METHODS = set(
    "append clear copy count endswith extend find get index insert isalnum isalpha isdigit islower "
    "isspace isupper items join keys ljust lower lstrip partition pop remove replace reverse rfind "
    "rjust rpartition rsplit rstrip setdefault split splitlines startswith strip update upper values "
    "zfill bit_length add discard sort".split()
)
BARRED_NODES = (
    ast.Global, ast.AsyncFunctionDef, ast.AsyncFor, ast.AsyncWith, ast.Await, ast.Div, ast.Import,
    ast.MatMult,
)
BARRED_WORDS = re.compile(
    r"\b(type|typing|typing_extensions|enum|Enum|IntEnum|StrEnum|Flag|IntFlag|Generic|Protocol|ABC|"
    r"ABCMeta|namedtuple|NamedTuple|TypedDict|TYPE_CHECKING|abstractmethod)\b"
    r"|dataclass|overload|contextmanager"
)

BARRED_NAMES = set(
    "register mro elements open input version_info with_traceback add_note attrgetter breakpoint "
    "builtins compile copyright credits delattr dir eval exec exit gc getattr globals hasattr help id "
    "importlib license locals methodcaller os quit setattr super vars sys format format_map".split()
)
TAKES_GENERATORS = set("list tuple dict sorted sum min max any all".split())
AT_ONCE = set("zip enumerate reversed range".split())
TAKES_AT_ONCE = set("list tuple dict sorted sum any all enumerate zip bytes min max".split())


def trees():
    """Each file with what Python makes of it."""
    return [(file.name, ast.parse(file.read_text())) for file in FILES]


def nodes():
    """Each part of each file."""
    return [(name, node) for name, tree in trees() for node in ast.walk(tree)]


def with_parents():
    """Each part of each file with the part in which it stands."""
    return [
        (name, parent, node)
        for name, parent in nodes()
        for node in ast.iter_child_nodes(parent)
    ]


def called(node):
    """The name of the plain function that this part calls, or None."""
    if isinstance(node, ast.Call) and isinstance(node.func, ast.Name):
        return node.func.id
    return None


def imports(tree):
    """Pairs (file, name) of all that a file imports."""
    return [
        (node.module.split(".")[-1] + ".py", alias.name)
        for node in ast.walk(tree) if isinstance(node, ast.ImportFrom)
        for alias in node.names
    ]


def defined(tree):
    """The names that a file binds itself, outside of functions and classes."""
    names = set()
    for node in tree.body:
        if isinstance(node, (ast.FunctionDef, ast.ClassDef)):
            names.add(node.name)
        if isinstance(node, ast.Assign):
            names.update(target.id for target in node.targets)
    return names


class Files(unittest.TestCase):
    def test_l1_the_folder_holds_nothing_else(self):
        there = [path.name for path in PACKAGE.iterdir() if path.name != "__pycache__"]
        self.assertEqual(sorted(there), [file.name for file in FILES])
        self.assertIn("__init__.py", there)

    def test_l10_sizes(self):
        for file in FILES:
            lines = file.read_text().split("\n")
            self.assertLessEqual(len(lines), 400, file.name)
            self.assertLessEqual(max(len(line) for line in lines), 120, file.name)
        for name, node in nodes():
            if isinstance(node, ast.FunctionDef):
                self.assertLessEqual(node.end_lineno - node.lineno + 1, 40, (name, node.name))

    def test_l14_signs(self):
        for file in FILES:
            for sign in file.read_bytes():
                self.assertTrue(sign == 10 or 32 <= sign <= 126, (file.name, sign))

    def test_l17_words(self):
        for file in FILES:
            self.assertIsNone(BARRED_WORDS.search(file.read_text()), file.name)


class Parts(unittest.TestCase):
    def test_l2_imports_are_from_the_package(self):
        for name, node in nodes():
            if isinstance(node, ast.ImportFrom):
                self.assertEqual(node.level, 0, name)
                self.assertTrue(node.module.startswith("namelesshall."), (name, node.module))

    def test_l3_module_level(self):
        for name, tree in trees():
            for node in tree.body[1:]:
                self.assertIsInstance(
                    node, (ast.ImportFrom, ast.FunctionDef, ast.ClassDef, ast.Assign), name)

    def test_l3_values_at_module_level_are_plain(self):
        for name, tree in trees():
            functions = {node.name for node in tree.body if isinstance(node, ast.FunctionDef)}
            for node in tree.body:
                if isinstance(node, ast.Assign):
                    for part in ast.walk(node.value):
                        plain = isinstance(part, (ast.Constant, ast.Tuple, ast.List, ast.Dict, ast.Load))
                        self.assertTrue(plain or getattr(part, "id", None) in functions, (name, node.lineno))
                    inner = [part for part in ast.walk(node.value) if isinstance(part, (ast.List, ast.Dict))]
                    self.assertTrue(inner in ([], [node.value]), (name, node.lineno))

    def test_l15_values_at_module_level_are_not_changed(self):
        tables = {target.id for name, tree in trees() for node in tree.body
                  if isinstance(node, ast.Assign) for target in node.targets}
        for name, node in nodes():
            self.assertNotIn(changed_name(node), tables, name)

    def test_l4_functions_stand_plainly(self):
        for name, node in nodes():
            if isinstance(node, ast.FunctionDef):
                self.assertEqual(node.decorator_list, [], (name, node.name))
                inner = [part for part in ast.walk(node) if isinstance(part, (ast.FunctionDef, ast.ClassDef))]
                self.assertEqual(inner, [node], name)
                self.assertEqual(node.args.posonlyargs, [], (name, node.name))

    def test_l6_l7_barred_parts(self):
        for name, node in nodes():
            self.assertNotIsInstance(node, BARRED_NODES, name)
            if isinstance(node, ast.Constant):
                self.assertNotIsInstance(node.value, (float, complex), name)

    def test_l8_builtins(self):
        for name, tree in trees():
            known = set(BUILTINS)
            for node in ast.walk(tree):
                if isinstance(node, (ast.FunctionDef, ast.ClassDef)):
                    known.add(node.name)
                if isinstance(node, ast.ImportFrom):
                    known.update(alias.asname or alias.name for alias in node.names)
                if isinstance(node, ast.arg):
                    known.add(node.arg)
                if isinstance(node, ast.Name) and isinstance(node.ctx, ast.Store):
                    known.add(node.id)
            used = {node.id for node in ast.walk(tree) if isinstance(node, ast.Name)}
            self.assertEqual(used - known, set(), name)

    def test_l12_names(self):
        for name, node in nodes():
            for field in ("id", "name", "attr", "arg"):
                word = getattr(node, field, None)
                if isinstance(word, str) and not re.fullmatch("__[a-z]+__", word):
                    self.assertFalse(word.startswith("_"), (name, word))

    def test_l7_generator_expressions_stand_in_what_takes_them(self):
        for name, parent, node in with_parents():
            if isinstance(node, ast.GeneratorExp):
                join = isinstance(parent, ast.Call) and getattr(parent.func, "attr", "") == "join"
                self.assertTrue(join or called(parent) in TAKES_GENERATORS, (name, node.lineno))

    def test_l15_names_are_bound_once(self):
        for name, tree in trees():
            bound = [node.name for node in tree.body if isinstance(node, (ast.FunctionDef, ast.ClassDef))]
            bound += [target.id for node in tree.body if isinstance(node, ast.Assign) for target in node.targets]
            bound += [word for file, word in imports(tree)]
            self.assertEqual(len(bound), len(set(bound)), name)

    def test_l15_no_variable_is_called_like_a_builtin_class_or_import(self):
        for name, tree in trees():
            taken = set(dir(builtins)) | {word for file, word in imports(tree)}
            taken |= {node.name for node in tree.body if isinstance(node, ast.ClassDef)}
            for node in ast.walk(tree):
                if isinstance(node, ast.arg):
                    self.assertNotIn(node.arg, taken, name)
                if isinstance(node, ast.Name) and isinstance(node.ctx, ast.Store):
                    self.assertNotIn(node.id, taken, name)

    def test_l16_imports_name_the_file_that_defines(self):
        names = {name: defined(tree) for name, tree in trees()}
        for name, tree in trees():
            for file, word in imports(tree):
                self.assertIn(word, names[file], name)

    def test_l16_no_file_imports_itself_by_way_of_others(self):
        direct = {name: {file for file, word in imports(tree)} for name, tree in trees()}
        for name in direct:
            far = set(direct[name])
            for again in direct:
                far |= {file for near in far for file in direct[near]}
            self.assertNotIn(name, far)

    def test_l17_names(self):
        for name, node in nodes():
            for field in ("id", "name", "attr", "arg"):
                self.assertNotIn(getattr(node, field, None), BARRED_NAMES, name)

    def test_l18_no_name_is_a_method_and_an_attribute(self):
        methods = {
            part.name for name, node in nodes() if isinstance(node, ast.ClassDef)
            for part in node.body if isinstance(part, ast.FunctionDef)
        }
        stored = {
            node.attr for name, node in nodes()
            if isinstance(node, ast.Attribute) and isinstance(node.ctx, ast.Store)
        }
        self.assertEqual(methods & stored, set())

    def test_l18_what_is_read_off_an_object_is_stored_or_a_method(self):
        stored = {
            node.attr for name, node in nodes()
            if isinstance(node, ast.Attribute) and isinstance(node.ctx, ast.Store)
        }
        functions = {node.name for name, node in nodes() if isinstance(node, ast.FunctionDef)}
        for name, parent, node in with_parents():
            if isinstance(node, ast.Attribute) and isinstance(node.ctx, ast.Load):
                is_called = isinstance(parent, ast.Call) and parent.func is node
                known = METHODS | functions if is_called else stored
                self.assertIn(node.attr, known, (name, node.lineno))

    def test_l18_classes_are_called_raised_or_bases(self):
        classes = {node.name for name, node in nodes() if isinstance(node, ast.ClassDef)}
        for name, parent, node in with_parents():
            if isinstance(node, ast.Name) and node.id in classes:
                right = isinstance(parent, (ast.Call, ast.ClassDef, ast.ExceptHandler, ast.Raise))
                self.assertTrue(right, (name, node.lineno))

    def test_l19_errors_are_made_on_the_spot(self):
        for name, node in nodes():
            if isinstance(node, ast.Raise):
                self.assertIsInstance(node.exc, ast.Call, (name, node.lineno))
                self.assertIsNone(node.cause, (name, node.lineno))
            if isinstance(node, ast.ExceptHandler):
                self.assertIsNotNone(node.type, (name, node.lineno))

    def test_l23_iterated_at_once(self):
        for name, parent, node in with_parents():
            if called(node) in AT_ONCE or getattr(getattr(node, "func", 0), "attr", "") in ("items", "keys", "values"):
                at_once = isinstance(parent, (ast.For, ast.comprehension)) or called(parent) in TAKES_AT_ONCE
                inside = isinstance(parent, ast.Compare) or called(parent) in ("reversed", "len")
                self.assertTrue(at_once or inside, (name, node.lineno))

    def test_l23_what_a_loop_goes_over_is_not_changed_in_it(self):
        for name, node in nodes():
            if isinstance(node, ast.For):
                over = {part.id for part in ast.walk(node.iter) if isinstance(part, ast.Name)}
                for part in [inner for row in node.body for inner in ast.walk(row)]:
                    self.assertNotIn(changed_name(part), over, (name, node.lineno))

    def test_l24_sets(self):
        for name, parent, node in with_parents():
            if called(node) in ("set", "frozenset") or isinstance(node, (ast.Set, ast.SetComp)):
                told = called(parent) in ("sorted", "len") or isinstance(parent, (ast.Assign, ast.Compare))
                self.assertTrue(told, (name, node.lineno))

    def test_l20_is(self):
        for name, node in nodes():
            if isinstance(node, ast.Compare):
                for sign, side in zip(node.ops, node.comparators):
                    if isinstance(sign, (ast.Is, ast.IsNot)):
                        self.assertIn(getattr(side, "value", 0), (None, True, False), name)

    def test_l25_methods(self):
        own = {node.name for name, node in nodes() if isinstance(node, ast.FunctionDef)}
        for name, node in nodes():
            if isinstance(node, ast.Call) and isinstance(node.func, ast.Attribute):
                self.assertIn(node.func.attr, METHODS | own, name)

    def test_l27_percent_sign(self):
        for name, node in nodes():
            if isinstance(node, ast.Constant) and isinstance(node.value, str):
                self.assertNotIn("%", node.value, name)


def changed_name(node):
    """The plain name whose value this part changes by a method or at an item, or None."""
    if isinstance(node, ast.Call) and isinstance(node.func, ast.Attribute):
        if node.func.attr in ("append", "clear", "extend", "insert", "pop", "remove", "reverse", "setdefault",
                              "update", "sort", "add", "discard"):
            return getattr(node.func.value, "id", None)
    if isinstance(node, ast.Subscript) and isinstance(node.ctx, (ast.Store, ast.Del)):
        return getattr(node.value, "id", None)
    return None


if __name__ == "__main__":
    unittest.main()
