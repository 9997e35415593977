"""More rules of the language: what operators and properties run, and what is iterated at once."""

import ast
import unittest

from tests.test_language import read_files

CHANGING_METHODS = ("append", "clear", "extend", "insert", "pop", "remove", "reverse", "setdefault", "update")
OWN_STATE = ("__init__", "__setitem__", "__call__", "__enter__", "__exit__")
MADE_BY = ("list", "dict", "sorted")
AT_ONCE = ("zip", "enumerate", "reversed", "range", "items", "keys", "values")
# What may stand around a call of one of those.
AROUND = ("list", "tuple", "dict", "sorted", "sum", "any", "all", "enumerate", "zip", "min", "max", "join", "set",
          "reversed", "len")


def trees():
    return [(path, tree) for path, _, tree in read_files()]


def called_name(call):
    if isinstance(call.func, ast.Name):
        return call.func.id
    return call.func.attr if isinstance(call.func, ast.Attribute) else None


def is_property(function):
    return any(isinstance(mark, ast.Name) and mark.id == "property" for mark in function.decorator_list)


def is_setter(function):
    return any(isinstance(mark, ast.Attribute) for mark in function.decorator_list)


class Package:
    """All functions of the package by the names by which they are called; a class stands for its `__init__`."""

    def __init__(self):
        self.by_name = {}
        self.classes = {}
        for path, tree in trees():
            for node in ast.walk(tree):
                if isinstance(node, ast.ClassDef):
                    self.classes[node.name] = (path, node)
                    for part in node.body:
                        if isinstance(part, ast.FunctionDef):
                            name = node.name if part.name == "__init__" else part.name
                            self.by_name.setdefault(name, []).append((path, part))
            for node in tree.body:
                if isinstance(node, ast.FunctionDef):
                    self.by_name.setdefault(node.name, []).append((path, node))

    def functions(self):
        return [function for told in self.by_name.values() for function in told]

    def run_by_operators(self):
        """All functions that operators and properties run, those of the same name included."""
        waiting = []
        for path, function in self.functions():
            name = function.name
            is_sign = name.startswith("__") and name not in OWN_STATE and (name[2] != "i" or name == "__iter__")
            if is_sign or (is_property(function) and not is_setter(function)):
                waiting.append((path, function))
        seen = {}
        while waiting:
            path, function = waiting.pop()
            if id(function) not in seen:
                seen[id(function)] = (path, function)
                for node in ast.walk(function):
                    if isinstance(node, ast.Call):
                        waiting.extend(self.by_name.get(called_name(node), []))
        return list(seen.values())


def made_here(function):
    """The local names that are assigned only lists and dicts that the function makes, as the rules tell how."""
    made, other = set(), {argument.arg for argument in function.args.args}
    for node in ast.walk(function):
        if isinstance(node, ast.Assign):
            value = node.value
            is_made = isinstance(value, (ast.List, ast.Dict, ast.ListComp)) or (
                isinstance(value, ast.Call) and called_name(value) in MADE_BY)
            for target in node.targets:
                if isinstance(target, ast.Name):
                    (made if is_made else other).add(target.id)
    return made - other


class Operators(unittest.TestCase):
    def setUp(self):
        self.package = Package()

    def test_what_operators_run_changes_nothing(self):
        """L5."""
        for path, function in self.package.run_by_operators():
            own = made_here(function)
            for node in ast.walk(function):
                place = (str(path), function.name, getattr(node, "lineno", None))
                self.assertNotIsInstance(node, (ast.AugAssign, ast.Delete, ast.Nonlocal), place)
                if isinstance(node, ast.Attribute) and isinstance(node.ctx, ast.Store):
                    self.assertTrue(function.name == "__init__" and node.value.id == "self", place)
                elif isinstance(node, ast.Subscript) and isinstance(node.ctx, ast.Store):
                    self.assertIn(getattr(node.value, "id", None), own, place)
                elif isinstance(node, ast.Call) and isinstance(node.func, ast.Attribute):
                    if node.func.attr in CHANGING_METHODS:
                        self.assertIn(getattr(node.func.value, "id", None), own, place)

    def test_operators_call_nothing_that_they_are_passed(self):
        """L5."""
        for path, function in self.package.run_by_operators():
            names = {argument.arg for argument in function.args.args} - {"cls"}
            names |= {node.id for node in ast.walk(function)
                      if isinstance(node, ast.Name) and isinstance(node.ctx, ast.Store)}
            for node in ast.walk(function):
                if isinstance(node, ast.Call) and isinstance(node.func, ast.Name):
                    self.assertNotIn(node.func.id, names, (path, function.name))

    def test_equality_and_texts_assign_nothing(self):
        """L28."""
        for path, function in self.package.functions():
            if function.name in ("__eq__", "__str__", "__len__", "__repr__"):
                for node in ast.walk(function):
                    self.assertNotIsInstance(node, (ast.Assign, ast.AugAssign), (path, function.lineno))

    def test_exits(self):
        """L6: plain assignments, and tests for None alone."""
        for path, function in self.package.functions():
            if function.name == "__exit__":
                for node in ast.walk(function):
                    self.assertNotIsInstance(node, (ast.Call, ast.BinOp, ast.For, ast.While, ast.Subscript), path)
                    if isinstance(node, ast.Compare):
                        self.assertIsInstance(node.ops[0], (ast.Is, ast.IsNot), path)


class Called(unittest.TestCase):
    def setUp(self):
        self.package = Package()

    def parents(self, tree):
        return {id(child): parent for parent in ast.walk(tree) for child in ast.iter_child_nodes(parent)}

    def check_around(self, node, parents, place):
        parent = parents[id(node)]
        if isinstance(parent, (ast.For, ast.comprehension)):
            self.assertIs(parent.iter, node, place)
        elif isinstance(parent, ast.Compare):
            self.assertIn(called_name(node), ("range", "keys"), place)
        else:
            self.assertIsInstance(parent, ast.Call, place)
            self.assertIn(called_name(parent), AROUND, place)
            self.assertIn(node, parent.args, place)

    def test_iterated_at_once(self):
        """L23."""
        for path, tree in trees():
            parents = self.parents(tree)
            for node in ast.walk(tree):
                if isinstance(node, ast.Call) and called_name(node) in AT_ONCE:
                    self.check_around(node, parents, (path, node.lineno))

    def test_generators_are_iterated_at_once(self):
        """L23."""
        generators = [function.name for _, function in self.package.functions()
                      if any(isinstance(node, (ast.Yield, ast.YieldFrom)) for node in ast.walk(function))]
        self.assertIn("roles_along", generators)
        for name in generators:
            self.assertEqual(len(self.package.by_name[name]), 1)
        for path, tree in trees():
            parents = self.parents(tree)
            for node in ast.walk(tree):
                if isinstance(node, ast.Call) and called_name(node) in generators:
                    self.check_around(node, parents, (path, node.lineno))

    def test_sets(self):
        """L24: no set is kept."""
        for path, tree in trees():
            parents = self.parents(tree)
            for node in ast.walk(tree):
                if isinstance(node, ast.SetComp) or (isinstance(node, ast.Call) and called_name(node) == "set"):
                    parent = parents[id(node)]
                    place = (path, node.lineno)
                    if isinstance(parent, ast.Call):
                        self.assertIn(called_name(parent), ("sorted", "len"), place)
                        self.assertEqual(parent.keywords, [], place)
                    else:
                        self.assertIsInstance(parent, ast.Compare, place)

    def test_number_of_arguments(self):
        """L22: functions of the package are called with as many arguments as they take."""
        for path, tree in trees():
            for node in ast.walk(tree):
                if isinstance(node, ast.Call) and isinstance(node.func, ast.Name) and node.func.id in self.package.by_name:
                    if not any(isinstance(argument, ast.Starred) for argument in node.args):
                        told = self.package.by_name[node.func.id]
                        here = [function for place, function in told if place == path] or [told[0][1]]
                        self.check_call(node, here[0], (path, node.lineno))

    def check_call(self, node, function, place):
        is_class = function.name == "__init__"
        names = [argument.arg for argument in function.args.args][is_class:]
        least = len(names) - len(function.args.defaults)
        self.assertTrue(least <= len(node.args) <= len(names), place)
        more = [argument.arg for argument in function.args.kwonlyargs]
        for keyword in node.keywords:
            self.assertTrue(keyword.arg in more or function.args.kwarg is not None, place)


class Bindings(unittest.TestCase):
    def test_local_names(self):
        """L15: no parameter or variable has the name of a class, a function or an import of its file."""
        for path, tree in trees():
            bound = []
            for node in tree.body:
                if isinstance(node, ast.ImportFrom):
                    bound.extend(alias.name for alias in node.names)
                elif isinstance(node, (ast.ClassDef, ast.FunctionDef)):
                    bound.append(node.name)
                elif isinstance(node, ast.Assign):
                    bound.extend(target.id for target in node.targets)
            self.assertEqual(len(bound), len(set(bound)), path)
            for function in ast.walk(tree):
                if isinstance(function, ast.FunctionDef):
                    for node in ast.walk(function):
                        if isinstance(node, ast.arg):
                            self.assertNotIn(node.arg, bound, path)
                        elif isinstance(node, ast.Name) and isinstance(node.ctx, ast.Store):
                            self.assertNotIn(node.id, bound, (path, node.lineno))

    def test_imports_are_used(self):
        for path, tree in trees():
            names = {node.id for node in ast.walk(tree) if isinstance(node, ast.Name)}
            for node in tree.body:
                if isinstance(node, ast.ImportFrom):
                    for alias in node.names:
                        self.assertIn(alias.name, names, path)

    def test_attributes(self):
        """L18, L5: no attribute is stored under the name of a method or a property."""
        package = Package()
        methods = [part.name for _, node in package.classes.values() for part in node.body
                   if isinstance(part, ast.FunctionDef)]
        stored = [node.attr for _, tree in trees() for node in ast.walk(tree)
                  if isinstance(node, ast.Attribute) and isinstance(node.ctx, ast.Store)]
        self.assertEqual(set(methods) & set(stored), set())
        for name in ("keys", "items", "values", "format", "args", "sort"):
            self.assertNotIn(name, methods + stored)

    def test_tables_at_module_level_are_only_read(self):
        """L15: a dict or list there is neither passed on nor returned."""
        for path, tree in trees():
            kept = [node.targets[0].id for node in tree.body
                    if isinstance(node, ast.Assign) and isinstance(node.value, (ast.Dict, ast.List))]
            parents = {id(child): parent for parent in ast.walk(tree) for child in ast.iter_child_nodes(parent)}
            for node in ast.walk(tree):
                if isinstance(node, ast.Name) and node.id in kept and isinstance(node.ctx, ast.Load):
                    parent = parents[id(node)]
                    is_read = isinstance(parent, (ast.Compare, ast.For, ast.comprehension)) or (
                        isinstance(parent, ast.Subscript) and isinstance(parent.ctx, ast.Load)) or (
                        isinstance(parent, ast.Attribute) and parent.attr == "get")
                    self.assertTrue(is_read, (path, node.lineno))

    def test_no_file_imports_in_a_circle(self):
        """L16."""
        imports = {}
        for path, tree in trees():
            name = "shelfroutes." + str(path)[:-3].replace("/", ".")
            imports[name] = [node.module for node in tree.body if isinstance(node, ast.ImportFrom)]
        seen = {}

        def visit(name):
            self.assertNotEqual(seen.get(name), "open", name)
            if name not in seen:
                seen[name] = "open"
                for other in imports[name]:
                    visit(other)
                seen[name] = "done"
        for name in imports:
            visit(name)

    def test_strings_stand_on_one_line(self):
        """L27: none but docstrings goes over two lines, and none stands directly beside another one."""
        for path, tree in trees():
            for node in ast.walk(tree):
                if isinstance(node, ast.JoinedStr):
                    self.assertEqual(node.lineno, node.end_lineno, path)
            for node in ast.walk(tree):
                for name, value in ast.iter_fields(node):
                    if isinstance(value, ast.Constant) and isinstance(value.value, str) and not isinstance(node, ast.Expr):
                        self.assertEqual(value.lineno, value.end_lineno, (path, value.lineno))

    def test_names_of_properties(self):
        """L5: a property has no name of a method."""
        package = Package()
        functions = [function for _, function in package.functions()]
        properties = {function.name for function in functions if is_property(function)}
        others = [function.name for function in functions if not is_property(function) and not is_setter(function)]
        self.assertEqual(properties & set(others), set())

    def test_powers(self):
        """L27: exponents are literals."""
        for path, tree in trees():
            for node in ast.walk(tree):
                if isinstance(node, ast.BinOp) and isinstance(node.op, ast.Pow):
                    self.assertIsInstance(node.right, ast.Constant, path)
                    self.assertLessEqual(node.right.value, 64, path)


if __name__ == "__main__":
    unittest.main()
