"""Rules of the language subset about names, classes and operators: L3, L5, L7, L8, L15 and L25."""

import ast
import builtins
import unittest

from test_language import trees

OPERATORS = ["lt", "le", "gt", "ge", "ne", "neg", "pos", "invert", "abs", "bool", "contains", "getitem", "setitem"]
ARITHMETIC = ["add", "sub", "mul", "floordiv", "mod", "pow", "and", "or", "xor", "lshift", "rshift"]
SPECIAL = {f"__{name}__" for name in ["init", "eq", "repr", "str", "len", "enter", "exit", "call", "iter"] + OPERATORS + ARITHMETIC}
# What these run changes nothing that it has not made itself.
STEADY = {f"__{name}__" for name in ["eq", "repr", "str", "len"] + OPERATORS + ARITHMETIC} - {"__setitem__"}
BUILTINS = set(
    "len range enumerate zip min max sum abs sorted reversed int str bool bytes list tuple dict set frozenset isinstance ord repr "
    "any all divmod pow iter next map property classmethod staticmethod NotImplemented Exception ValueError TypeError KeyError "
    "IndexError LookupError ZeroDivisionError ArithmeticError OverflowError RuntimeError NotImplementedError".split())
METHODS = set(
    "append clear copy count endswith extend find get index insert isalnum isalpha isdigit islower isspace isupper items join keys "
    "ljust lower lstrip partition pop remove replace reverse rfind rjust rpartition rsplit rstrip setdefault split splitlines "
    "startswith strip update upper values zfill bit_length add discard".split())
CHANGING = set("append clear extend insert pop remove reverse setdefault update add discard".split())
FRESH = (ast.List, ast.Dict, ast.ListComp, ast.DictComp)


def functions():
    """Triples of a file, a class or None, and a function or method."""
    found = []
    for path, tree in trees():
        for node in tree.body:
            if isinstance(node, ast.FunctionDef):
                found.append((path, None, node))
            if isinstance(node, ast.ClassDef):
                found += [(path, node, method) for method in node.body if isinstance(method, ast.FunctionDef)]
    return found


def bound_names(function):
    """The names that a function binds: its parameters and what it assigns to."""
    named = function.args.posonlyargs + function.args.args + function.args.kwonlyargs
    named += [argument for argument in (function.args.vararg, function.args.kwarg) if argument]
    stored = {node.id for node in ast.walk(function) if isinstance(node, ast.Name) and isinstance(node.ctx, ast.Store)}
    return {argument.arg for argument in named} | stored


def file_names(tree):
    """The names of the classes and imports of a file, and all that it binds."""
    narrow, wide = set(), set()
    for node in tree.body:
        if isinstance(node, ast.ImportFrom):
            narrow |= {alias.name for alias in node.names}
        if isinstance(node, ast.ClassDef):
            narrow.add(node.name)
        if isinstance(node, ast.FunctionDef):
            wide.add(node.name)
        if isinstance(node, ast.Assign):
            wide |= {target.id for target in node.targets}
    return narrow, narrow | wide


def is_fresh(node):
    """Whether an expression makes a new list or dict."""
    called = isinstance(node, ast.Call) and isinstance(node.func, ast.Name) and node.func.id in ("list", "dict", "sorted", "set")
    return isinstance(node, FRESH) or called


class Names(unittest.TestCase):
    def test_modules_hold_plain_statements(self):
        for path, tree in trees():
            for node in tree.body:
                docstring = isinstance(node, ast.Expr) and isinstance(node.value, ast.Constant)
                self.assertTrue(docstring or isinstance(node, (ast.ImportFrom, ast.FunctionDef, ast.ClassDef, ast.Assign)), path)

    def test_names_are_bound_once_in_a_module(self):
        for path, tree in trees():
            names = [node.name for node in tree.body if isinstance(node, (ast.FunctionDef, ast.ClassDef))]
            names += [node.targets[0].id for node in tree.body if isinstance(node, ast.Assign)]
            names += [alias.name for node in tree.body if isinstance(node, ast.ImportFrom) for alias in node.names]
            self.assertEqual(len(names), len(set(names)), path)
            self.assertEqual(set(names) & set(dir(builtins)), set(), path)

    def test_local_names_are_no_builtins_classes_or_imports(self):
        files = {path: file_names(tree) for path, tree in trees()}
        for path, _, function in functions():
            names = bound_names(function)
            self.assertEqual(names & (set(dir(builtins)) | files[path][0]), set(), (path, function.name))

    def test_other_names_are_of_the_file_or_allowed_builtins(self):
        files = {path: file_names(tree) for path, tree in trees()}
        for path, tree in trees():
            bound = set().union(*[bound_names(function) for place, _, function in functions() if place == path])
            read = {node.id for node in ast.walk(tree) if isinstance(node, ast.Name)}
            self.assertLessEqual(read, BUILTINS | bound | files[path][1], path)

    def test_methods_are_own_ones_or_allowed(self):
        own = {function.name for _, place, function in functions() if place is not None}
        for path, tree in trees():
            for node in ast.walk(tree):
                if isinstance(node, ast.Call) and isinstance(node.func, ast.Attribute):
                    self.assertIn(node.func.attr, METHODS | own, path)

    def test_generator_expressions_stand_nowhere_near_own_comparisons(self):
        for path, tree in trees():
            for node in ast.walk(tree):
                self.assertNotIsInstance(node, ast.GeneratorExp, path)


class Classes(unittest.TestCase):
    def test_methods_with_two_underscores_are_allowed_ones(self):
        for path, place, function in functions():
            if function.name.startswith("__"):
                self.assertTrue(place is not None and function.name in SPECIAL, (path, function.name))

    def test_decorators(self):
        for path, place, function in functions():
            names = [node.id for node in function.decorator_list]
            self.assertIn(names, [[]] if place is None else [[], ["property"], ["classmethod"], ["staticmethod"]], path)

    def test_not_implemented_is_only_returned(self):
        for path, tree in trees():
            named = [node for node in ast.walk(tree) if isinstance(node, ast.Name) and node.id == "NotImplemented"]
            returned = [node.value for node in ast.walk(tree) if isinstance(node, ast.Return)]
            self.assertTrue(all(any(node is value for value in returned) for node in named), path)

    def test_operators_and_properties_change_only_what_they_make(self):
        by_name = {}
        for path, place, function in functions():
            by_name.setdefault(function.name if function.name != "__init__" else place.name, []).append(function)
        waiting = [function for _, _, function in functions() if function.name in STEADY or any(
            node.id == "property" for node in function.decorator_list)]
        seen = []
        while waiting:
            function = waiting.pop()
            if function in seen:
                continue
            seen.append(function)
            self.assert_steady(function)
            for node in ast.walk(function):
                if isinstance(node, ast.Call):
                    name = node.func.id if isinstance(node.func, ast.Name) else node.func.attr
                    waiting += by_name.get(name, [])
        self.assertTrue(len(seen) > 20)

    def assert_steady(self, function):
        """A function changes only lists, dicts and objects that it has made itself."""
        made = {}
        for node in ast.walk(function):
            if isinstance(node, ast.Assign):
                for target in node.targets:
                    if isinstance(target, ast.Name):
                        made.setdefault(target.id, []).append(node.value)
        fresh = {name for name, values in made.items() if all(is_fresh(value) for value in values)}
        objects = {name for name, values in made.items() if len(values) == 1 and isinstance(values[0], ast.Call)}
        for node in ast.walk(function):
            if isinstance(node, ast.Subscript) and not isinstance(node.ctx, ast.Load):
                self.assertTrue(isinstance(node.value, ast.Name) and node.value.id in fresh, (function.name, node.lineno))
            if isinstance(node, ast.Attribute) and not isinstance(node.ctx, ast.Load):
                own = function.name == "__init__" and node.value.id == "self"
                self.assertTrue(own or node.value.id in objects, (function.name, node.lineno))
            if isinstance(node, ast.Call) and isinstance(node.func, ast.Attribute) and node.func.attr in CHANGING:
                self.assertTrue(isinstance(node.func.value, ast.Name) and node.func.value.id in fresh, (function.name, node.lineno))
            if isinstance(node, ast.AugAssign):
                counted = isinstance(node.target, ast.Name) and isinstance(node.value, ast.Constant)
                self.assertTrue(counted and isinstance(node.value.value, int), (function.name, node.lineno))
