"""Those rules of the program's language that can be told from the files by plain looking."""

import ast
import builtins
import pathlib
import re
import unittest

PACKAGE = pathlib.Path(__file__).resolve().parent.parent / "traitmere"
FILES = sorted(PACKAGE.glob("*.py"))

BUILTINS = """len range enumerate zip min max sum abs sorted reversed int str bool bytes list tuple dict set isinstance
ord repr any all divmod Exception ValueError TypeError KeyError IndexError LookupError ZeroDivisionError ArithmeticError
OverflowError RuntimeError NotImplementedError StopIteration""".split()
METHODS = """append clear copy count endswith extend find get index insert isalnum isalpha isdigit islower isspace
isupper items join keys ljust lower lstrip partition pop remove replace reverse rfind rjust rpartition rsplit rstrip
setdefault split splitlines startswith strip update upper values zfill bit_length""".split()
NO_WORDS = """type typing typing_extensions enum Enum IntEnum StrEnum Flag IntFlag Generic Protocol ABC ABCMeta
namedtuple NamedTuple TypedDict TYPE_CHECKING abstractmethod""".split()
NO_NAMES = """register mro elements open input version_info with_traceback add_note attrgetter breakpoint builtins
compile copyright credits delattr dir eval exec exit gc getattr globals hasattr help id importlib license locals
methodcaller os quit setattr super type vars sys hash map next round filter format iter chr frozenset print""".split()
DOUBLE = ("__init__", "__eq__", "__repr__", "__str__", "__len__", "__enter__", "__exit__")
NO_NODES = (ast.Global, ast.AsyncFunctionDef, ast.Await, ast.NamedExpr, ast.Import, ast.Div)


def nodes_of(path):
    return list(ast.walk(ast.parse(path.read_text(encoding="utf-8"))))


def all_nodes():
    return [(path.name, node) for path in FILES for node in nodes_of(path)]


def bound_names(node):
    """The names that a node gives a meaning to."""
    if isinstance(node, ast.Name) and isinstance(node.ctx, ast.Store):
        return [node.id]
    if isinstance(node, (ast.FunctionDef, ast.ClassDef)):
        return [node.name]
    if isinstance(node, ast.ExceptHandler):
        return [node.name] if node.name else []
    if isinstance(node, ast.arg):
        return [node.arg]
    if isinstance(node, ast.alias):
        return [node.asname or node.name]
    return []


def module_names(path):
    """The names that a file gives a meaning to by itself, outside of functions and classes."""
    rows = ast.parse(path.read_text(encoding="utf-8")).body
    return [name for row in rows for node in (row, *getattr(row, "targets", ())) for name in bound_names(node)]


class TestLanguage(unittest.TestCase):
    def test_the_folder_has_only_files_of_the_program(self):
        others = [path.name for path in PACKAGE.iterdir() if path not in FILES and path.name != "__pycache__"]
        self.assertEqual(others, [])
        self.assertTrue(all(re.fullmatch("[a-z][a-z0-9_]*|__init__", path.stem) for path in FILES))

    def test_sizes_and_signs(self):
        for path in FILES:
            text = path.read_text(encoding="utf-8")
            rows = text.split("\n")
            self.assertLessEqual(len(rows), 400, path)
            self.assertLessEqual(max(len(row) for row in rows), 120, path)
            self.assertTrue(all(" " <= sign <= "~" or sign == "\n" for sign in text), path)
            self.assertEqual([word for word in re.findall(r"\w+", text) if word in NO_WORDS], [], path)

    def test_function_sizes(self):
        for name, node in all_nodes():
            if isinstance(node, ast.FunctionDef):
                self.assertLessEqual(node.end_lineno - node.lineno + 1, 40, (name, node.name))

    def test_no_barred_statements(self):
        for name, node in all_nodes():
            self.assertNotIsInstance(node, NO_NODES, (name, getattr(node, "lineno", None)))

    def test_imports_are_of_the_package_and_go_one_way(self):
        ahead = {}
        for path in FILES:
            ahead[f"traitmere.{path.stem}"] = [node.module for node in nodes_of(path)
                                               if isinstance(node, ast.ImportFrom)]
        while ahead:
            ready = [name for name in ahead if not any(other in ahead for other in ahead[name])]
            self.assertTrue(ready, f"files import from each other: {sorted(ahead)}")
            for name in ready:
                self.assertTrue(all(other.startswith("traitmere.") for other in ahead[name]), name)
            ahead = {name: ahead[name] for name in ahead if name not in ready}

    def test_imports_name_the_file_that_defines_and_are_used(self):
        defined = {f"traitmere.{path.stem}": module_names(path) for path in FILES}
        for path in FILES:
            used = {node.id for node in nodes_of(path) if isinstance(node, ast.Name)}
            imported = [(node.module, each.name) for node in nodes_of(path) if isinstance(node, ast.ImportFrom)
                        for each in node.names]
            self.assertEqual(len(imported), len({name for module, name in imported}), path)
            for module, name in imported:
                self.assertIn(name, defined[module], path)
                self.assertIn(name, used, path)

    def test_no_local_name_is_one_of_an_import_a_class_or_a_builtin(self):
        for path in FILES:
            taken = {each.name for node in nodes_of(path) if isinstance(node, ast.ImportFrom) for each in node.names}
            taken |= {node.name for node in nodes_of(path) if isinstance(node, ast.ClassDef)} | set(dir(builtins))
            for function in nodes_of(path):
                if isinstance(function, (ast.FunctionDef, ast.Lambda)):
                    inner = [name for node in ast.walk(function) if isinstance(node, (ast.Name, ast.arg))
                             for name in bound_names(node)]
                    self.assertEqual(sorted(taken.intersection(inner)), [], path)

    def test_names(self):
        for name, node in all_nodes():
            for bound in bound_names(node):
                self.assertTrue(re.fullmatch("[A-Za-z][A-Za-z0-9_]*", bound) or bound in DOUBLE, (name, bound))
                self.assertNotIn(bound, NO_NAMES, name)
                if not isinstance(node, ast.FunctionDef):
                    self.assertNotIn(bound, BUILTINS, name)

    def test_only_known_names_are_called(self):
        own = [bound for name, node in all_nodes() for bound in bound_names(node)]
        methods = [node.name for name, node in all_nodes() if isinstance(node, ast.FunctionDef)]
        for name, node in all_nodes():
            if isinstance(node, ast.Name) and isinstance(node.ctx, ast.Load):
                self.assertIn(node.id, own + BUILTINS, name)
            if isinstance(node, ast.Call) and isinstance(node.func, ast.Attribute):
                self.assertIn(node.func.attr, methods + METHODS, (name, node.lineno))

    def test_no_name_is_a_method_and_an_attribute(self):
        classes = [node for name, node in all_nodes() if isinstance(node, ast.ClassDef)]
        methods = {row.name for node in classes for row in node.body if isinstance(row, ast.FunctionDef)}
        stored = {node.attr for name, node in all_nodes()
                  if isinstance(node, ast.Attribute) and isinstance(node.ctx, ast.Store)}
        self.assertEqual(sorted(methods & stored), [])
        read = {node.attr for name, node in all_nodes() if isinstance(node, ast.Attribute)}
        self.assertEqual(sorted(read - stored - methods - set(METHODS)), [])

    def test_identity_is_asked_of_none_true_and_false_alone(self):
        for name, node in all_nodes():
            if isinstance(node, ast.Compare) and any(isinstance(sign, (ast.Is, ast.IsNot)) for sign in node.ops):
                self.assertIsInstance(node.comparators[0], ast.Constant, name)

    def test_where_equality_is_own_the_answers_are_taken_of_lists(self):
        for name, node in all_nodes():
            if isinstance(node, ast.Call) and isinstance(node.func, ast.Name):
                if node.func.id in ("any", "all", "min", "max", "sum", "sorted"):
                    self.assertNotIsInstance(node.args[0], ast.GeneratorExp, (name, node.lineno))


if __name__ == "__main__":
    unittest.main()
