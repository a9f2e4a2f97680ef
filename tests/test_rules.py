"""The rules of the language, as far as a short look at the files shows them, and point 0.12's first sentence."""

import ast
import builtins
import os
import re
import unittest
import warnings

ROOT = os.path.dirname(os.path.dirname(os.path.abspath(__file__)))
PACKAGE = os.path.join(ROOT, "pairorder")
INTERFACE = {
    "errors.py": ["PairError", "InvalidTable", "InvalidAmounts", "InvalidOrder", "InvalidPair", "InvalidBound",
                  "InvalidCall", "InvalidText", "NotRight", "NoOrder", "NoFit", "LimitExceeded"],
    "wholes.py": ["is_integer", "is_between"],
    "kinds.py": ["is_kind", "suits"],
    "tables.py": ["Table"],
    "amounts.py": ["Amounts"],
    "orders.py": ["Order"],
    "serving.py": ["Server", "Serving", "serving_of", "is_serving"],
    "certificates.py": ["fits", "shortage", "is_shortage", "cheapest", "are_worths", "least_cost"],
    "right.py": ["faults", "first_fault", "is_right", "is_fault", "amounts_of", "shown"],
    "nexts.py": ["may_stand", "bar_of", "stuck", "is_stuck", "has_order", "least_order"],
    "counting.py": ["count", "order_at", "number_of"],
    "leading.py": ["unlike", "led", "is_led"],
    "alike.py": ["parted", "parting", "normal"],
    "ranges.py": ["slack", "steady", "price_range"],
    "lots.py": ["leave_outs", "is_monge", "by_rows", "by_columns", "by_price"],
    "desk.py": ["Desk"],
    "texts.py": ["show_table", "show_order", "show_amounts", "read_table", "read_order", "read_amounts"],
}
METHODS = {
    "Table": "__init__ __getitem__ __contains__ __len__ __eq__ __add__ __mul__ __rmul__ has_cell pairs stocks wishes rows "
             "shifted with_price without turned filled",
    "Amounts": "__init__ __eq__ __add__ __mul__ __rmul__ stocks wishes over fits_size zeros",
    "Order": "__init__ __getitem__ __len__ __contains__ __eq__ __lt__ __le__ __gt__ __ge__ place exchanged moved turned "
             "pairs",
    "Server": "__init__ __call__ steps",
    "Serving": "__getitem__ __eq__ moved cost total left_stocks left_wishes is_full amounts",
    "Desk": "__init__ __getitem__ __setitem__ __iadd__ __isub__ bar set_order set_kind kind table amounts order "
            "first_fault serving cost stuck_set log undo redo trial",
}
# The methods of builtin values that the language has (L25, its first list), but those that modify sets.
BUILTIN_METHODS = set(
    "append clear copy count endswith extend find get index insert isalnum isalpha isdigit islower isspace isupper items "
    "join keys ljust lower lstrip partition pop remove replace reverse rfind rjust rpartition rsplit rstrip setdefault "
    "split splitlines startswith strip update upper values zfill bit_length".split())
OPERATORS = set(
    "__eq__ __len__ __lt__ __le__ __gt__ __ge__ __add__ __mul__ __rmul__ __contains__ __getitem__ __iter__".split())
BUILTINS = set(
    "len range enumerate zip min max sum abs sorted reversed int str bool bytes list tuple dict set isinstance ord "
    "repr any all divmod iter next super property staticmethod classmethod Exception ValueError TypeError KeyError "
    "IndexError LookupError ZeroDivisionError ArithmeticError OverflowError RuntimeError NotImplementedError "
    "AttributeError StopIteration NotImplemented".split())
BARRED_NAMES = set("register mro elements open input law version_info with_traceback add_note format format_map".split())
BARRED_WORDS = re.compile(
    r"\b(type|typing|typing_extensions|enum|Enum|IntEnum|StrEnum|Flag|IntFlag|Generic|Protocol|ABC|ABCMeta|namedtuple|"
    r"NamedTuple|TypedDict|TYPE_CHECKING|abstractmethod)\b|dataclass|overload|contextmanager")


def sources():
    """The name and the text of each file of the package."""
    found = {}
    for name in sorted(os.listdir(PACKAGE)):
        if name != "__pycache__":
            with open(os.path.join(PACKAGE, name), encoding="utf-8", newline="") as file:
                found[name] = file.read()
    return found


def defined(tree):
    """The names that a file defines at module level, imports not included."""
    names = [node.name for node in tree.body if isinstance(node, (ast.FunctionDef, ast.ClassDef))]
    return names + [node.targets[0].id for node in tree.body if isinstance(node, ast.Assign)]


def names_in(tree):
    """Every name that a file reads, assigns, defines, passes by keyword or imports."""
    for node in ast.walk(tree):
        for field in ("id", "attr", "arg", "name", "asname"):
            name = getattr(node, field, None)
            if isinstance(name, str):
                yield name


def classes(trees):
    """Every class of the package."""
    return [node for tree in trees.values() for node in tree.body if isinstance(node, ast.ClassDef)]


def methods_of(found):
    """The methods of a class, by their names."""
    return {node.name: node for node in found.body if isinstance(node, ast.FunctionDef)}


class Rules(unittest.TestCase):
    def setUp(self):
        self.sources = sources()
        self.trees = {name: ast.parse(text) for name, text in self.sources.items()}

    def test_the_interface_stands_in_its_files(self):
        for name, listed in INTERFACE.items():
            body = self.trees[name].body
            found = [node.name for node in body if isinstance(node, (ast.FunctionDef, ast.ClassDef))]
            self.assertEqual([entry for entry in listed if entry not in found], [], name)

    def test_the_methods_of_the_interface_stand_in_their_classes(self):
        found = {node.name: methods_of(node) for node in classes(self.trees)}
        for name, listed in METHODS.items():
            self.assertEqual([entry for entry in listed.split() if entry not in found[name]], [], name)

    def test_no_name_is_a_method_and_an_attribute(self):
        methods = {name for found in classes(self.trees) for name in methods_of(found)}
        assigned = {node.attr for tree in self.trees.values() for node in ast.walk(tree)
                    if isinstance(node, ast.Attribute) and isinstance(node.ctx, ast.Store)}
        self.assertEqual(sorted(methods & assigned), [])
        self.assertEqual(sorted(assigned & BUILTIN_METHODS), [])

    def test_every_method_that_is_called_is_known(self):
        known = {name for found in classes(self.trees) for name in methods_of(found)} | BUILTIN_METHODS
        for name, tree in self.trees.items():
            for node in ast.walk(tree):
                if isinstance(node, ast.Call) and isinstance(node.func, ast.Attribute):
                    self.assertIn(node.func.attr, known, (name, node.lineno))

    def test_a_class_with_an_index_cannot_be_iterated_over(self):
        for found in classes(self.trees):
            if "__getitem__" in methods_of(found):
                self.assertIsInstance(methods_of(found)["__iter__"].body[0], ast.Raise, found.name)

    def test_what_orders_and_equality_do_to_sorting_and_summing(self):
        for name, tree in self.trees.items():
            for node in ast.walk(tree):
                if isinstance(node, ast.Call) and isinstance(node.func, ast.Name):
                    place = (name, node.lineno)
                    if node.func.id in ("any", "all", "sum", "min", "max", "sorted"):
                        self.assertNotIsInstance(node.args[0], ast.GeneratorExp, place)
                    # With classes that compare, these take what is plainly numbers or strings; so they are not used.
                    self.assertNotIn(node.func.id, ("min", "max", "sorted"), place)

    def test_operators_change_nothing(self):
        for found in classes(self.trees):
            for name, method in methods_of(found).items():
                if name in OPERATORS:
                    for node in ast.walk(method):
                        self.assertNotIsInstance(node, (ast.Assign, ast.AugAssign, ast.Delete), (found.name, name))

    def test_no_sign_assigns_and_computes(self):
        # Beside a desk's += and -=, the language has them at few places (L5 Operators); so they are not used.
        for name, tree in self.trees.items():
            for node in ast.walk(tree):
                self.assertNotIsInstance(node, ast.AugAssign, name)

    def test_a_finally_only_sets_names_and_attributes(self):
        for name, tree in self.trees.items():
            for node in ast.walk(tree):
                for row in node.finalbody if isinstance(node, ast.Try) else []:
                    self.assertIsInstance(row, ast.Assign, name)
                    for part in ast.walk(row):
                        self.assertIsInstance(part, (ast.Assign, ast.Tuple, ast.Name, ast.Attribute, ast.expr_context), name)

    def test_errors_are_caught_by_name_and_raised_where_they_are_made(self):
        own = set(defined(self.trees["errors.py"]))
        for name, tree in self.trees.items():
            for node in ast.walk(tree):
                if isinstance(node, ast.ExceptHandler):
                    self.assertIn(node.type.id, own, name)
                if isinstance(node, ast.Raise):
                    self.assertIsInstance(node.exc, ast.Call, name)
                    self.assertIn(node.exc.func.id, own | {"TypeError"}, name)

    def test_a_property_is_no_method_and_no_attribute(self):
        for found in classes(self.trees):
            for method in methods_of(found).values():
                for decorator in method.decorator_list:
                    self.assertIn(decorator.id, ("property", "classmethod"), (found.name, method.name))
                    if decorator.id == "property":
                        others = [other for other in classes(self.trees) if other is not found and method.name in methods_of(other)]
                        self.assertEqual(others, [])
                        self.assertIsInstance(method.body[-1], ast.Return)

    def test_files(self):
        self.assertIn("__init__.py", self.sources)
        for name, text in self.sources.items():
            self.assertRegex(name, r"\A([a-z][a-z0-9_]*|__init__|__main__)\.py\Z")
            self.assertRegex(text, r"\A[ -~\n]*\Z", name)
            self.assertLessEqual(len(text.split("\n")), 399, name)
            self.assertLessEqual(max(len(line) for line in text.split("\n")), 120, name)
            self.assertIsNone(BARRED_WORDS.search(text), name)

    def test_files_give_no_warning(self):
        for name, text in self.sources.items():
            with warnings.catch_warnings():
                warnings.simplefilter("error")
                compile(text, name, "exec")

    def test_functions_are_short(self):
        for name, tree in self.trees.items():
            for node in ast.walk(tree):
                if isinstance(node, ast.FunctionDef):
                    self.assertLessEqual(node.end_lineno - node.lineno + 1, 40, (name, node.name))

    def test_module_level(self):
        for name, tree in self.trees.items():
            for k, node in enumerate(tree.body):
                if k == 0 and ast.get_docstring(tree) is not None:
                    continue
                self.assertIsInstance(node, (ast.ImportFrom, ast.FunctionDef, ast.ClassDef, ast.Assign), name)

    def test_imports_name_the_file_that_defines(self):
        for name, tree in self.trees.items():
            for node in ast.walk(tree):
                self.assertNotIsInstance(node, ast.Import, name)
                if isinstance(node, ast.ImportFrom):
                    self.assertIn(node, tree.body, name)
                    self.assertEqual(node.level, 0, name)
                    folder, file = node.module.split(".")
                    self.assertEqual(folder, "pairorder", name)
                    for alias in node.names:
                        self.assertIn(alias.name, defined(self.trees[f"{file}.py"]), name)

    def test_names(self):
        for name, tree in self.trees.items():
            for found in names_in(tree):
                self.assertRegex(found, r"\A([A-Za-z][A-Za-z0-9_]*|__[a-z]+__)\Z", name)
                self.assertNotIn(found, BARRED_NAMES, name)

    def test_no_builtin_but_the_listed_ones(self):
        for name, tree in self.trees.items():
            used = {node.id for node in ast.walk(tree) if isinstance(node, ast.Name)}
            self.assertEqual(sorted((used & set(dir(builtins))) - BUILTINS), [], name)

    def test_no_name_of_a_builtin_gets_another_meaning(self):
        for name, tree in self.trees.items():
            given = {node.id for node in ast.walk(tree) if isinstance(node, ast.Name) and isinstance(node.ctx, ast.Store)}
            given |= {node.arg for node in ast.walk(tree) if isinstance(node, ast.arg)}
            given |= set(defined(tree))
            self.assertEqual(sorted(given & set(dir(builtins))), [], name)

    def test_no_name_inside_has_the_name_of_a_class_or_an_import_of_its_file(self):
        for name, tree in self.trees.items():
            barred = {alias.name for node in tree.body if isinstance(node, ast.ImportFrom) for alias in node.names}
            barred |= {node.name for node in tree.body if isinstance(node, ast.ClassDef)}
            given = {node.id for node in ast.walk(tree) if isinstance(node, ast.Name) and isinstance(node.ctx, ast.Store)}
            given |= {node.arg for node in ast.walk(tree) if isinstance(node, ast.arg)}
            self.assertEqual(sorted(given & barred), [], name)

    def test_only_what_is_imported_is_used_and_all_of_it(self):
        for name, tree in self.trees.items():
            imported = [alias.name for node in tree.body if isinstance(node, ast.ImportFrom) for alias in node.names]
            used = {node.id for node in ast.walk(tree) if isinstance(node, ast.Name)}
            self.assertEqual([entry for entry in imported if entry not in used], [], name)
            self.assertEqual(len(imported), len(set(imported)), name)

    def test_no_two_files_import_from_each_other(self):
        below = {name: {node.module.split(".")[1] + ".py" for node in tree.body if isinstance(node, ast.ImportFrom)}
                 for name, tree in self.trees.items()}
        while below:
            free = [name for name, others in below.items() if not others & set(below)]
            self.assertNotEqual(free, [], below)
            below = {name: others for name, others in below.items() if name not in free}

    def test_statements_and_expressions_that_are_not_used(self):
        barred = (ast.Global, ast.AsyncFunctionDef, ast.AsyncFor, ast.AsyncWith, ast.Await, ast.Div)
        for name, tree in self.trees.items():
            for node in ast.walk(tree):
                self.assertNotIsInstance(node, barred, name)
                if isinstance(node, ast.Constant):
                    self.assertNotIsInstance(node.value, (float, complex), name)
                    self.assertNotIn("%", str(node.value), name)

    def test_is_stands_beside_none_true_and_false_only(self):
        for name, tree in self.trees.items():
            for node in ast.walk(tree):
                if isinstance(node, ast.Compare):
                    for sign, right in zip(node.ops, node.comparators):
                        if isinstance(sign, (ast.Is, ast.IsNot)):
                            self.assertIsInstance(right, ast.Constant, name)
                            self.assertIn(right.value, (None, True, False), name)


if __name__ == "__main__":
    unittest.main()
