"""The rules of the language, as far as a short look at the files shows them, and point 0.12's first sentence."""

import ast
import builtins
import os
import re
import unittest
import warnings

ROOT = os.path.dirname(os.path.dirname(os.path.abspath(__file__)))
PACKAGE = os.path.join(ROOT, "pairorder")
INTERFACE = {
    "errors.py": ["PairError", "InvalidTable", "InvalidAmounts", "InvalidOrder", "InvalidPair", "InvalidBound",
                  "InvalidCall", "InvalidText", "NotRight", "NoOrder", "NoFit", "LimitExceeded"],
    "wholes.py": ["is_integer", "is_between"],
    "kinds.py": ["is_kind", "suits"],
}
BUILTINS = set(
    "len range enumerate zip min max sum abs sorted reversed int str bool bytes list tuple dict set isinstance ord "
    "repr any all divmod iter next super property staticmethod classmethod Exception ValueError TypeError KeyError "
    "IndexError LookupError ZeroDivisionError ArithmeticError OverflowError RuntimeError NotImplementedError "
    "AttributeError StopIteration NotImplemented".split())
BARRED_NAMES = set("register mro elements open input law version_info with_traceback add_note format format_map".split())
BARRED_WORDS = re.compile(
    r"\b(type|typing|typing_extensions|enum|Enum|IntEnum|StrEnum|Flag|IntFlag|Generic|Protocol|ABC|ABCMeta|namedtuple|"
    r"NamedTuple|TypedDict|TYPE_CHECKING|abstractmethod)\b|dataclass|overload|contextmanager")


def sources():
    """The name and the text of each file of the package."""
    found = {}
    for name in sorted(os.listdir(PACKAGE)):
        if name != "__pycache__":
            with open(os.path.join(PACKAGE, name), encoding="utf-8", newline="") as file:
                found[name] = file.read()
    return found


def defined(tree):
    """The names that a file defines at module level, imports not included."""
    names = [node.name for node in tree.body if isinstance(node, (ast.FunctionDef, ast.ClassDef))]
    return names + [node.targets[0].id for node in tree.body if isinstance(node, ast.Assign)]


def names_in(tree):
    """Every name that a file reads, assigns, defines, passes by keyword or imports."""
    for node in ast.walk(tree):
        for field in ("id", "attr", "arg", "name", "asname"):
            name = getattr(node, field, None)
            if isinstance(name, str):
                yield name


class Rules(unittest.TestCase):
    def setUp(self):
        self.sources = sources()
        self.trees = {name: ast.parse(text) for name, text in self.sources.items()}

    def test_the_interface_stands_in_its_files(self):
        for name, listed in INTERFACE.items():
            body = self.trees[name].body
            found = [node.name for node in body if isinstance(node, (ast.FunctionDef, ast.ClassDef))]
            self.assertEqual([entry for entry in listed if entry not in found], [], name)

    def test_files(self):
        self.assertIn("__init__.py", self.sources)
        for name, text in self.sources.items():
            self.assertRegex(name, r"\A([a-z][a-z0-9_]*|__init__|__main__)\.py\Z")
            self.assertRegex(text, r"\A[ -~\n]*\Z", name)
            self.assertLessEqual(len(text.split("\n")), 399, name)
            self.assertLessEqual(max(len(line) for line in text.split("\n")), 120, name)
            self.assertIsNone(BARRED_WORDS.search(text), name)

    def test_files_give_no_warning(self):
        for name, text in self.sources.items():
            with warnings.catch_warnings():
                warnings.simplefilter("error")
                compile(text, name, "exec")

    def test_functions_are_short(self):
        for name, tree in self.trees.items():
            for node in ast.walk(tree):
                if isinstance(node, ast.FunctionDef):
                    self.assertLessEqual(node.end_lineno - node.lineno + 1, 40, (name, node.name))

    def test_module_level(self):
        for name, tree in self.trees.items():
            for k, node in enumerate(tree.body):
                if k == 0 and ast.get_docstring(tree) is not None:
                    continue
                self.assertIsInstance(node, (ast.ImportFrom, ast.FunctionDef, ast.ClassDef, ast.Assign), name)

    def test_imports_name_the_file_that_defines(self):
        for name, tree in self.trees.items():
            for node in ast.walk(tree):
                self.assertNotIsInstance(node, ast.Import, name)
                if isinstance(node, ast.ImportFrom):
                    self.assertIn(node, tree.body, name)
                    self.assertEqual(node.level, 0, name)
                    folder, file = node.module.split(".")
                    self.assertEqual(folder, "pairorder", name)
                    for alias in node.names:
                        self.assertIn(alias.name, defined(self.trees[f"{file}.py"]), name)

    def test_names(self):
        for name, tree in self.trees.items():
            for found in names_in(tree):
                self.assertRegex(found, r"\A([A-Za-z][A-Za-z0-9_]*|__[a-z]+__)\Z", name)
                self.assertNotIn(found, BARRED_NAMES, name)

    def test_no_builtin_but_the_listed_ones(self):
        for name, tree in self.trees.items():
            used = {node.id for node in ast.walk(tree) if isinstance(node, ast.Name)}
            self.assertEqual(sorted((used & set(dir(builtins))) - BUILTINS), [], name)

    def test_no_name_of_a_builtin_gets_another_meaning(self):
        for name, tree in self.trees.items():
            given = {node.id for node in ast.walk(tree) if isinstance(node, ast.Name) and isinstance(node.ctx, ast.Store)}
            given |= {node.arg for node in ast.walk(tree) if isinstance(node, ast.arg)}
            given |= set(defined(tree))
            self.assertEqual(sorted(given & set(dir(builtins))), [], name)

    def test_statements_and_expressions_that_are_not_used(self):
        barred = (ast.Global, ast.AsyncFunctionDef, ast.AsyncFor, ast.AsyncWith, ast.Await, ast.Div)
        for name, tree in self.trees.items():
            for node in ast.walk(tree):
                self.assertNotIsInstance(node, barred, name)
                if isinstance(node, ast.Constant):
                    self.assertNotIsInstance(node.value, (float, complex), name)
                    self.assertNotIn("%", str(node.value), name)

    def test_is_stands_beside_none_true_and_false_only(self):
        for name, tree in self.trees.items():
            for node in ast.walk(tree):
                if isinstance(node, ast.Compare):
                    for sign, right in zip(node.ops, node.comparators):
                        if isinstance(sign, (ast.Is, ast.IsNot)):
                            self.assertIsInstance(right, ast.Constant, name)
                            self.assertIn(right.value, (None, True, False), name)


if __name__ == "__main__":
    unittest.main()
