"""Some rules of the language, as far as the files of the package show them: its own numbers stand behind them."""

import ast
import builtins
import pathlib
import re
import unittest

PACKAGE = pathlib.Path(__file__).resolve().parent.parent / "shelfroutes"
SIGNS = ("lt le gt ge ne add sub mul floordiv mod pow and or xor lshift rshift radd rsub rmul rfloordiv rmod rand ror "
         "rxor rlshift rrshift iadd isub imul ifloordiv imod ipow iand ior ixor ilshift irshift neg pos invert abs bool "
         "contains getitem setitem init eq repr str len enter exit call iter").split()
BUILTINS = ("len range enumerate zip min max sum abs sorted reversed int str bool bytes list tuple dict set frozenset "
            "isinstance ord repr any all divmod iter next map property staticmethod classmethod super Exception "
            "ValueError TypeError KeyError IndexError LookupError ZeroDivisionError ArithmeticError OverflowError "
            "RuntimeError NotImplementedError AttributeError StopIteration NotImplemented").split()
BARRED_NAMES = ("attrgetter breakpoint builtins compile copyright credits delattr dir eval exec exit gc getattr globals "
                "hasattr help id importlib license locals methodcaller os quit setattr sys type vars register mro "
                "elements open input law version_info with_traceback add_note").split()
BARRED_WORDS = ("typing typing_extensions enum Enum IntEnum StrEnum Flag IntFlag Generic Protocol ABC ABCMeta "
                "namedtuple NamedTuple TypedDict TYPE_CHECKING abstractmethod").split()
LIBRARY = {"heapq": "heappush heappop heapify heapreplace heappushpop".split(),
           "math": "gcd lcm isqrt comb perm factorial".split()}
BARRED_NODES = (ast.Global, ast.AsyncFunctionDef, ast.Await, ast.AsyncFor, ast.AsyncWith, ast.Import, ast.Div)


def read_files():
    for path in sorted(PACKAGE.rglob("*.py")):
        text = path.read_text(encoding="utf-8")
        yield path.relative_to(PACKAGE), text, ast.parse(text)


def nodes_of(*kinds):
    for path, _, tree in read_files():
        for node in ast.walk(tree):
            if isinstance(node, kinds):
                yield path, node


def has_docstring_place(tree, node):
    for parent in ast.walk(tree):
        body = getattr(parent, "body", None)
        if isinstance(body, list) and body and isinstance(body[0], ast.Expr) and body[0].value is node:
            return True
    return False


class Files(unittest.TestCase):
    def test_folder(self):
        """L1, L14: Python files alone, and an __init__.py in each folder."""
        for path in PACKAGE.rglob("*"):
            if "__pycache__" in path.parts:
                continue
            if path.is_dir():
                self.assertTrue((path / "__init__.py").exists(), path)
            else:
                self.assertRegex(path.name, "^[a-z0-9_]+\\.py$")
        self.assertLessEqual(len(list(read_files())), 100)

    def test_size_and_characters(self):
        """L10, L14."""
        for path, text, _ in read_files():
            lines = text.split("\n")
            self.assertLessEqual(len(lines) - 1, 399, path)
            for at, line in enumerate(lines):
                self.assertLessEqual(len(line), 120, (path, at + 1))
                self.assertRegex(line, "^[ -~]*$", (path, at + 1))

    def test_size_of_functions(self):
        """L10."""
        for path, node in nodes_of(ast.FunctionDef):
            self.assertLessEqual(node.end_lineno - node.lineno + 1, 40, (path, node.name))


class Statements(unittest.TestCase):
    def test_imports(self):
        """L2, L16: full names of the package, at the top, from the file that defines the name."""
        for path, _, tree in read_files():
            for node in ast.walk(tree):
                if isinstance(node, ast.ImportFrom):
                    self.assertIn(node, tree.body, path)
                    self.assertEqual(node.level, 0, path)
                    for alias in node.names:
                        self.check_import(path, node.module, alias)

    def check_import(self, path, module, alias):
        if module in LIBRARY:
            self.assertIn(alias.name, LIBRARY[module], path)
            self.assertIsNone(alias.asname, path)
            return
        self.assertTrue(module.startswith("shelfroutes."), path)
        target = PACKAGE.parent / (module.replace(".", "/") + ".py")
        names = []
        for node in ast.parse(target.read_text()).body:
            if isinstance(node, (ast.FunctionDef, ast.ClassDef)):
                names.append(node.name)
            elif isinstance(node, ast.Assign):
                names.append(node.targets[0].id)
        self.assertIn(alias.name, names, (path, module))

    def test_barred_statements(self):
        """L6, L7."""
        self.assertEqual([(path, node.lineno) for path, node in nodes_of(*BARRED_NODES)], [])

    def test_module_level(self):
        """L3."""
        for path, _, tree in read_files():
            for at, node in enumerate(tree.body):
                is_text = at == 0 and isinstance(node, ast.Expr) and isinstance(node.value, ast.Constant)
                allowed = (ast.ImportFrom, ast.FunctionDef, ast.ClassDef, ast.Assign)
                self.assertTrue(is_text or isinstance(node, allowed), (path, node.lineno))

    def test_handlers(self):
        """L19: errors by their names, and none of Python's that may not be caught."""
        wrong = ("Exception", "TypeError", "ArithmeticError", "OverflowError", "RuntimeError", "NotImplementedError",
                 "AttributeError")
        for path, node in nodes_of(ast.ExceptHandler):
            self.assertIsNotNone(node.type, path)
            for part in ast.walk(node.type):
                if isinstance(part, ast.Name):
                    self.assertNotIn(part.id, wrong, (path, node.lineno))

    def test_is(self):
        """L20."""
        for path, node in nodes_of(ast.Compare):
            if any(isinstance(sign, (ast.Is, ast.IsNot)) for sign in node.ops):
                last = node.comparators[-1]
                self.assertTrue(isinstance(last, ast.Constant) and last.value in (None, True, False), (path, node.lineno))

    def test_lists_instead_of_generator_expressions(self):
        """L7: a class of the package has its own equality."""
        for path, node in nodes_of(ast.GeneratorExp):
            self.fail((path, node.lineno))


class Names(unittest.TestCase):
    def test_names(self):
        """L8, L12, L15, L17: no builtin beyond the list, and none with another meaning."""
        own = vars(builtins)
        for path, node in nodes_of(ast.Name, ast.arg, ast.FunctionDef, ast.ClassDef):
            name = getattr(node, "id", None) or getattr(node, "arg", None) or node.name
            place = (path, node.lineno, name)
            if isinstance(node, ast.Name) and isinstance(node.ctx, ast.Load):
                self.assertTrue(name not in own or name in BUILTINS, place)
            elif name in own:
                self.fail(place)
            self.assertNotIn(name, BARRED_NAMES, place)
            if not isinstance(node, ast.FunctionDef) or not name.startswith("__"):
                self.assertRegex(name, "^(_?[A-Za-z][A-Za-z0-9_]*|_)$", place)

    def test_double_underscore_methods(self):
        """L5."""
        allowed = ["__" + sign + "__" for sign in SIGNS]
        for path, node in nodes_of(ast.FunctionDef):
            if node.name.startswith("__"):
                self.assertIn(node.name, allowed, path)

    def test_classes_with_items(self):
        """L5: a class with items says whether it is iterated over."""
        for path, node in nodes_of(ast.ClassDef):
            names = [part.name for part in node.body if isinstance(part, ast.FunctionDef)]
            if "__getitem__" in names:
                self.assertIn("__iter__", names, (path, node.name))

    def test_words(self):
        """L12, L17, L27: words and characters that no string contains."""
        for path, text, tree in read_files():
            self.assertIsNone(re.search("dataclass|overload|contextmanager|\\(type\\)|Meta|metaclass=|_wall|_WallAttr", text))
            for node in ast.walk(tree):
                if isinstance(node, ast.Constant) and isinstance(node.value, str):
                    if not has_docstring_place(tree, node):
                        self.assertNotIn("%", node.value, (path, node.lineno))
                        self.assertEqual(set(re.findall("\\w+", node.value)) & set(BARRED_WORDS), set(), path)
                elif isinstance(node, (ast.Name, ast.Attribute)):
                    self.assertNotIn(getattr(node, "id", None) or node.attr, BARRED_WORDS, (path, node.lineno))


if __name__ == "__main__":
    unittest.main()
