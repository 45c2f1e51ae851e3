"""The files of the package keep to the rules of the language that a test can see.

In a few places this is narrower than the rules, where the package does not need
what they allow: no decorators, no generator expressions, no annotated assignments, no bytes.
"""

import ast
import builtins
import pathlib
import re
import unittest

PACKAGE = pathlib.Path(__file__).resolve().parent.parent / "turnedties"
BUILTINS = set(
    "len range enumerate zip min max sum abs sorted reversed int str bool bytes list tuple dict set frozenset"
    " isinstance ord repr any all divmod Exception ValueError TypeError KeyError IndexError LookupError"
    " ZeroDivisionError ArithmeticError OverflowError RuntimeError NotImplementedError AttributeError"
    " StopIteration NotImplemented iter next super property staticmethod classmethod".split()
)
DOUBLE = set("__init__ __eq__ __repr__ __str__ __len__ __enter__ __exit__ __call__ __iter__".split())
NOWHERE = set("register mro elements open input law version_info with_traceback add_note format format_map".split())
NO_WORDS = re.compile(
    r"\b(type|typing|typing_extensions|enum|Enum|IntEnum|StrEnum|Flag|IntFlag|Generic|Protocol|ABC|ABCMeta|namedtuple"
    r"|NamedTuple|TypedDict|TYPE_CHECKING|abstractmethod)\b|dataclass|overload|contextmanager"
)
NO_NAMES = set(
    "attrgetter breakpoint builtins compile copyright credits delattr dir eval exec exit gc getattr globals hasattr"
    " help id importlib license locals methodcaller os quit setattr super type vars sys".split()
)
ITERATED = set("zip enumerate reversed range".split())
ITERATED_METHODS = set("items keys values".split())
ITERATING = set("list tuple dict sorted sum any all enumerate zip min max".split())
STATEMENTS = (
    ast.Assign, ast.AugAssign, ast.If, ast.While, ast.For, ast.Return, ast.Break, ast.Continue, ast.Pass, ast.Raise,
    ast.Assert, ast.Delete, ast.Nonlocal, ast.Match, ast.With, ast.Try, ast.Expr, ast.FunctionDef, ast.ClassDef,
    ast.ImportFrom,
)
BARRED = (ast.GeneratorExp, ast.Await)


def sources():
    """The text of each file of the package, by its name."""
    return {path.name: path.read_text(encoding="utf-8") for path in sorted(PACKAGE.glob("*.py"))}


def nodes(kinds):
    """Each node of these kinds in the package, with the place where it stands."""
    found = []
    for name, text in sources().items():
        for node in ast.walk(ast.parse(text)):
            if isinstance(node, kinds):
                found.append((f"{name}:{getattr(node, 'lineno', 0)}", node))
    return found


def placed_nodes(kinds):
    """Each node of these kinds in the package, with its place and with the node in which it stands."""
    found = []
    for place, outer in nodes(ast.AST):
        found += [(place, node, outer) for node in ast.iter_child_nodes(outer) if isinstance(node, kinds)]
    return found


def called_name(node):
    """The name of the function or method that is called, None if the node is no call."""
    if not isinstance(node, ast.Call):
        return None
    return node.func.id if isinstance(node.func, ast.Name) else node.func.attr


def bound_names():
    """The names of variables, parameters, functions, classes and imports."""
    found = [(place, node.id) for place, node in nodes(ast.Name) if isinstance(node.ctx, ast.Store)]
    found += [(place, node.arg) for place, node in nodes(ast.arg)]
    found += [(place, node.name) for place, node in nodes((ast.FunctionDef, ast.ClassDef))]
    found += [(place, node.asname or node.name) for place, node in nodes(ast.alias)]
    return found


def methods():
    """The names of methods, each with the place where it is defined."""
    found = []
    for place, node in nodes(ast.ClassDef):
        file = place.split(":")[0]
        found += [(f"{file}:{entry.lineno}", entry.name) for entry in node.body if isinstance(entry, ast.FunctionDef)]
    return found


def stored_attributes():
    """The names of attributes that are assigned."""
    return [(place, node.attr) for place, node in nodes(ast.Attribute) if isinstance(node.ctx, ast.Store)]


class Files(unittest.TestCase):
    def test_the_folder_holds_files_of_the_program_alone(self):
        for path in PACKAGE.iterdir():
            if path.name != "__pycache__":
                self.assertRegex(path.name, r"^[a-z0-9_]+\.py$")
        self.assertIn("__init__.py", sources())

    def test_sizes_and_characters(self):
        for name, text in sources().items():
            self.assertLessEqual(len(text.split("\n")), 400, name)
            for number, line in enumerate(text.split("\n"), 1):
                self.assertLessEqual(len(line), 120, f"{name}:{number}")
            self.assertTrue(all(mark == "\n" or " " <= mark <= "~" for mark in text), name)
        for place, node in nodes(ast.FunctionDef):
            self.assertLessEqual(node.end_lineno - node.lineno + 1, 40, place)

    def test_words_that_stand_nowhere(self):
        for name, text in sources().items():
            self.assertIsNone(NO_WORDS.search(text), name)

    def test_imports(self):
        for place, node in nodes((ast.Import, ast.ImportFrom)):
            self.assertIsInstance(node, ast.ImportFrom, place)
            self.assertEqual(0, node.level, place)
            self.assertTrue(node.module.startswith("turnedties."), place)
            file = node.module.split(".")[1] + ".py"
            defined = [entry.name for entry in ast.parse(sources()[file]).body if hasattr(entry, "name")]
            assigned = [entry.targets[0].id for entry in ast.parse(sources()[file]).body if hasattr(entry, "targets")]
            for alias in node.names:
                self.assertIn(alias.name, defined + assigned, place)

    def test_no_import_is_left_over(self):
        for name, text in sources().items():
            for entry in ast.parse(text).body:
                if isinstance(entry, ast.ImportFrom):
                    for alias in entry.names:
                        self.assertGreater(len(re.findall(rf"\b{alias.name}\b", text)), 1, f"{name}: {alias.name}")


    def test_no_two_files_import_from_each_other(self):
        found = {
            name[:-3]: [
                entry.module.split(".")[1] for entry in ast.parse(text).body if isinstance(entry, ast.ImportFrom)
            ]
            for name, text in sources().items()
        }
        while found:
            ready = [name for name in found if not set(found[name]) & set(found)]
            self.assertNotEqual([], ready, f"these import from each other: {list(found)}")
            found = {name: found[name] for name in found if name not in ready}

    def test_names_are_bound_once(self):
        for name, text in sources().items():
            bound = []
            for entry in ast.parse(text).body:
                if isinstance(entry, ast.ImportFrom):
                    bound += [alias.name for alias in entry.names]
                elif isinstance(entry, ast.Assign):
                    bound.append(entry.targets[0].id)
                elif isinstance(entry, (ast.FunctionDef, ast.ClassDef)):
                    bound.append(entry.name)
            self.assertEqual(len(set(bound)), len(bound), name)


class Statements(unittest.TestCase):
    def test_kinds(self):
        for place, node in nodes(ast.stmt):
            self.assertIsInstance(node, STATEMENTS, place)
        for place, node in nodes(BARRED):
            self.fail(f"{place}: {node}")

    def test_module_level(self):
        for name, text in sources().items():
            for at, entry in enumerate(ast.parse(text).body):
                place = f"{name}:{entry.lineno}"
                if isinstance(entry, ast.Assign):
                    self.assertEqual(1, len(entry.targets), place)
                    self.assertIsInstance(entry.targets[0], ast.Name, place)
                elif isinstance(entry, ast.Expr):
                    self.assertEqual(0, at, place)
                else:
                    self.assertIsInstance(entry, (ast.FunctionDef, ast.ClassDef, ast.ImportFrom), place)

    def test_functions_and_classes(self):
        for place, node in nodes(ast.arguments):
            self.assertEqual([], node.posonlyargs, place)
        for place, node in nodes((ast.FunctionDef, ast.ClassDef)):
            self.assertEqual([], node.decorator_list, place)
        for place, name in methods():
            self.assertTrue(name in DOUBLE or not name.startswith("_"), place)

    def test_numbers_strings_and_signs(self):
        for place, node in nodes(ast.Constant):
            self.assertNotIsInstance(node.value, (float, complex, bytes), place)
            if isinstance(node.value, str):
                self.assertNotIn("%", node.value, place)
        for place, node in nodes(ast.BinOp):
            self.assertNotIsInstance(node.op, (ast.Div, ast.MatMult), place)
        for place, node in nodes(ast.Compare):
            for sign, right in zip(node.ops, node.comparators):
                if isinstance(sign, (ast.Is, ast.IsNot)):
                    self.assertIn(ast.unparse(right), ("None", "True", "False"), place)


class Values(unittest.TestCase):
    def test_exponents_are_small_and_written_out(self):
        for place, node in nodes(ast.BinOp):
            if isinstance(node.op, ast.Pow):
                self.assertIsInstance(node.right, ast.Constant, place)
                self.assertIn(node.right.value, range(65), place)

    def test_sets_are_sorted_or_counted_on_the_spot(self):
        sets = [row for row in placed_nodes((ast.Set, ast.SetComp, ast.Call)) if called_name(row[1]) in (None, "set")]
        for place, node, outer in sets:
            self.assertIn(called_name(outer), ("sorted", "len"), place)
            self.assertEqual([], outer.keywords, place)

    def test_what_is_iterated_at_once(self):
        for place, node, outer in placed_nodes(ast.Call):
            is_method = isinstance(node.func, ast.Attribute)
            if called_name(node) in (ITERATED_METHODS if is_method else ITERATED):
                iterates = isinstance(outer, (ast.For, ast.comprehension)) and outer.iter == node
                self.assertTrue(iterates or called_name(outer) in ITERATING, place)

    def test_keywords_of_builtins(self):
        allowed = {"sorted": {"key", "reverse"}, "min": {"key", "default"}, "max": {"key", "default"}}
        for place, node in nodes(ast.Call):
            if called_name(node) in BUILTINS and isinstance(node.func, ast.Name):
                for keyword in node.keywords:
                    self.assertIn(keyword.arg, allowed.get(node.func.id, ()), place)


class Names(unittest.TestCase):
    def test_bound_names(self):
        known = methods()
        for place, name in bound_names():
            is_method = (place, name) in known
            self.assertNotIn(name, NOWHERE | NO_NAMES, place)
            self.assertTrue(is_method or not name.startswith("_"), f"{place}: {name}")
            self.assertFalse(hasattr(builtins, name) and not is_method, f"{place}: {name}")

    def test_builtins(self):
        bound = {name for place, name in bound_names()}
        for place, node in nodes(ast.Name):
            if node.id not in bound:
                self.assertIn(node.id, BUILTINS, place)

    def test_variables_are_not_called_like_classes_and_imports(self):
        for name, text in sources().items():
            tree = ast.parse(text)
            taken = {alias.name for entry in tree.body if isinstance(entry, ast.ImportFrom) for alias in entry.names}
            taken |= {entry.name for entry in tree.body if isinstance(entry, ast.ClassDef)}
            for node in ast.walk(tree):
                if isinstance(node, ast.arg):
                    self.assertNotIn(node.arg, taken, name)
                if isinstance(node, ast.Name) and isinstance(node.ctx, ast.Store):
                    self.assertNotIn(node.id, taken, name)

    def test_no_name_is_a_method_and_an_attribute(self):
        attributes = {name for place, name in stored_attributes()}
        for place, name in methods():
            self.assertNotIn(name, attributes, place)

    def test_attributes_are_plain_and_assigned_somewhere(self):
        known = {name for place, name in stored_attributes() + methods()}
        for kind in (str, int, list, dict, set, tuple, bytes):
            for place, name in stored_attributes():
                self.assertFalse(hasattr(kind, name), f"{place}: {name}")
        for place, node in nodes(ast.Attribute):
            allowed = any(hasattr(kind, node.attr) for kind in (str, list, dict, IndexError, set))
            self.assertTrue(node.attr in known or allowed, f"{place}: {node.attr}")


if __name__ == "__main__":
    unittest.main()
