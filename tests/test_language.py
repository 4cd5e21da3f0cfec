"""Those rules of the Python subset that a short test can see.

The subset is described in ../shared/LANGUAGE.md; the numbers are its rules'.
"""

import ast
import builtins
import pathlib
import re
import unittest

PACKAGE = pathlib.Path(__file__).resolve().parent.parent / "wellfolk"
FILES = sorted(PACKAGE.rglob("*.py"))
TREES = {path: ast.parse(path.read_text(encoding="utf-8")) for path in FILES}

BUILTINS = set(
    "len range enumerate zip min max sum abs sorted reversed int str bool bytes list tuple dict "
    "set frozenset isinstance ord repr any all divmod pow getattr hasattr setattr map iter next "
    "super property staticmethod classmethod object Exception ValueError TypeError KeyError "
    "IndexError LookupError ZeroDivisionError ArithmeticError OverflowError RuntimeError "
    "NotImplementedError AttributeError StopIteration NotImplemented".split())
LIBRARY = {"heapq", "math", "itertools", "collections"}
BARRED_WORDS = set(
    "type typing typing_extensions enum Enum IntEnum StrEnum Flag IntFlag Generic Protocol ABC "
    "ABCMeta namedtuple NamedTuple TypedDict TYPE_CHECKING abstractmethod".split())
BARRED_NAMES = set(
    "register mro elements open input law version_info with_traceback add_note".split())
BARRED_STATEMENTS = (ast.Global, ast.AsyncFunctionDef, ast.AsyncFor, ast.AsyncWith, ast.Await)


def bound_names(tree):
    """Return all names that a file binds as a variable, parameter, function or class."""
    names = []
    for node in ast.walk(tree):
        if isinstance(node, ast.Name) and isinstance(node.ctx, ast.Store):
            names.append(node.id)
        elif isinstance(node, ast.arg):
            names.append(node.arg)
        elif isinstance(node, (ast.FunctionDef, ast.ClassDef)):
            names.append(node.name)
    return names


def method_names(tree):
    """Return the names of all methods of a file."""
    return [node.name for cls in tree.body if isinstance(cls, ast.ClassDef)
            for node in cls.body if isinstance(node, ast.FunctionDef)]


def imported_files(tree):
    """Return the files of the package that a file imports from."""
    return [node.module.split(".")[1] for node in tree.body
            if isinstance(node, ast.ImportFrom) and node.module.startswith("wellfolk.")]


class LanguageTest(unittest.TestCase):

    def each_node(self):
        for path, tree in TREES.items():
            for node in ast.walk(tree):
                yield f"{path.name}:{getattr(node, 'lineno', 0)}", node

    def test_l1_l14_files(self):
        for path in PACKAGE.rglob("*"):
            if "__pycache__" not in path.parts:
                self.assertRegex(path.name, r"\A[a-z0-9_]+\.py\Z")
        self.assertIn(PACKAGE / "__init__.py", FILES)

    def test_l10_l14_l27_lines_and_characters(self):
        for path in FILES:
            lines = path.read_text(encoding="utf-8").split("\n")
            self.assertLessEqual(len(lines), 399, path.name)
            for number, line in enumerate(lines, 1):
                self.assertRegex(line, r"\A[ -~]{0,120}\Z", f"{path.name}:{number}")

    def test_l10_functions(self):
        for place, node in self.each_node():
            if isinstance(node, ast.FunctionDef):
                self.assertLessEqual(node.end_lineno - node.lineno + 1, 40, place)

    def test_l2_l16_imports(self):
        for place, node in self.each_node():
            self.assertNotIsInstance(node, ast.Import, place)
            if isinstance(node, ast.ImportFrom):
                self.assertEqual(node.level, 0, place)
                self.assertIn(node.module.split(".")[0], LIBRARY | {"wellfolk"}, place)
                for alias in node.names:
                    self.assertIsNone(alias.asname, place)
                    if node.module.startswith("wellfolk."):
                        path = PACKAGE / (node.module.split(".")[1] + ".py")
                        top = [name for child in TREES[path].body
                               for name in bound_names(ast.Module([child], []))]
                        self.assertIn(alias.name, top, place)

    def test_l16_no_two_files_import_from_each_other(self):
        waiting = {path.stem: imported_files(tree) for path, tree in TREES.items()}
        while waiting:
            free = [name for name, needs in waiting.items()
                    if not any(need in waiting for need in needs)]
            self.assertTrue(free, waiting)
            for name in free:
                del waiting[name]

    def test_l3_module_level(self):
        kinds = (ast.ImportFrom, ast.FunctionDef, ast.ClassDef, ast.Assign)
        for path, tree in TREES.items():
            docstring = tree.body[:1] if ast.get_docstring(tree) is not None else []
            for node in tree.body[len(docstring):]:
                self.assertIsInstance(node, kinds, path.name)

    def test_l6_l7_statements_and_numbers(self):
        for place, node in self.each_node():
            self.assertNotIsInstance(node, BARRED_STATEMENTS, place)
            self.assertNotIsInstance(node, (ast.Div, ast.MatMult), place)
            if isinstance(node, ast.Constant):
                self.assertNotIsInstance(node.value, (float, complex), place)
                if isinstance(node.value, str):
                    self.assertNotIn("%", node.value, place)

    def test_l8_l15_builtins(self):
        every = set(dir(builtins))
        for place, node in self.each_node():
            if isinstance(node, ast.Name) and node.id in every:
                self.assertIn(node.id, BUILTINS, place)
        for path, tree in TREES.items():
            methods = method_names(tree)
            for name in bound_names(tree):
                if name not in methods:
                    self.assertNotIn(name, every, path.name)

    def test_l12_l17_names(self):
        for path, tree in TREES.items():
            for name in bound_names(tree):
                self.assertNotIn(name, BARRED_NAMES, path.name)
                if name not in method_names(tree):
                    self.assertFalse(name.startswith("__"), (path.name, name))

    def test_l17_words(self):
        for path, tree in TREES.items():
            words = set(bound_names(tree))
            for node in ast.walk(tree):
                if isinstance(node, ast.Attribute):
                    words.add(node.attr)
                elif isinstance(node, ast.Name):
                    words.add(node.id)
            self.assertEqual(words & (BARRED_WORDS | BARRED_NAMES), set(), path.name)
            self.assertIsNone(re.search("dataclass|contextmanager|_wall|_WallAttr",
                                        path.read_text()), path.name)

    def test_l15_one_binding_for_each_name_of_a_module(self):
        for path, tree in TREES.items():
            names = []
            for node in tree.body:
                if isinstance(node, ast.ImportFrom):
                    names.extend(alias.name for alias in node.names)
                elif isinstance(node, (ast.FunctionDef, ast.ClassDef)):
                    names.append(node.name)
                elif isinstance(node, ast.Assign):
                    names.extend(target.id for target in node.targets)
            self.assertEqual(len(names), len(set(names)), path.name)

    def test_l15_no_inner_name_hides_a_class_or_an_import(self):
        for path, tree in TREES.items():
            outer = set()
            for node in tree.body:
                if isinstance(node, ast.ImportFrom):
                    outer.update(alias.name for alias in node.names)
                elif isinstance(node, ast.ClassDef):
                    outer.add(node.name)
            for node in ast.walk(tree):
                if isinstance(node, ast.FunctionDef):
                    inner = set(bound_names(node)) - {node.name}
                    self.assertEqual(inner & outer, set(), f"{path.name}: {node.name}")


if __name__ == "__main__":
    unittest.main()
