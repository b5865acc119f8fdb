"""Rule L23 of the language subset: what is iterated at once is not passed on, returned or stored."""

import ast
import unittest

from test_language import trees

LAZY = ("range", "zip", "enumerate", "reversed", "map")
VIEWS = ("items", "keys", "values")
# These iterate over what they are passed first.
TAKING = ("list", "tuple", "dict", "sorted", "sum", "any", "all", "enumerate", "zip", "min", "max")


def is_lazy(node):
    """Whether an expression is a range, a zip and the like, or a view of a dict."""
    if not isinstance(node, ast.Call):
        return False
    if isinstance(node.func, ast.Name):
        return node.func.id in LAZY
    return isinstance(node.func, ast.Attribute) and node.func.attr in VIEWS and not node.args


def iterated(tree):
    """The expressions that a loop, a comprehension, a builtin or a `join` iterates over."""
    found = []
    for node in ast.walk(tree):
        if isinstance(node, (ast.For, ast.comprehension)):
            found.append(node.iter)
        if isinstance(node, ast.Call) and isinstance(node.func, ast.Name) and node.func.id in TAKING:
            found += node.args
        if isinstance(node, ast.Call) and isinstance(node.func, ast.Name) and node.func.id in ("len", "reversed"):
            found += [argument for argument in node.args if is_range(argument)]
        if isinstance(node, ast.Call) and isinstance(node.func, ast.Attribute) and node.func.attr == "join":
            found += node.args
        if isinstance(node, ast.Compare) and isinstance(node.ops[0], (ast.In, ast.NotIn)):
            found += [side for side in node.comparators if is_range(side) or (is_lazy(side) and getattr(side.func, "attr", "") == "keys")]
        # A range can be kept, in a plain local variable.
        if isinstance(node, ast.Assign) and isinstance(node.targets[0], ast.Name) and is_range(node.value):
            found.append(node.value)
    return found


def is_range(node):
    """Whether an expression is a range."""
    return isinstance(node, ast.Call) and isinstance(node.func, ast.Name) and node.func.id == "range"


def left_over(tree):
    """The lines with a range, a zip and the like, or a view, that is not iterated at once."""
    places = [id(node) for node in iterated(tree)]
    return [node.lineno for node in ast.walk(tree) if is_lazy(node) and id(node) not in places]


def kept_ranges(function):
    """The names of the local variables to which a function assigns a range."""
    return {node.targets[0].id for node in ast.walk(function) if isinstance(node, ast.Assign) and is_range(node.value)
            and isinstance(node.targets[0], ast.Name)}


class Iterating(unittest.TestCase):
    def test_nothing_lazy_is_passed_on_returned_or_stored(self):
        for path, tree in trees():
            self.assertEqual(left_over(tree), [], path)

    def test_kept_ranges_are_neither_passed_on_nor_returned(self):
        for path, tree in trees():
            for function in [node for node in ast.walk(tree) if isinstance(node, ast.FunctionDef)]:
                names = kept_ranges(function)
                for node in ast.walk(function):
                    given = []
                    if isinstance(node, ast.Call) and not (isinstance(node.func, ast.Name) and node.func.id in TAKING + ("len",)):
                        given = node.args + [keyword.value for keyword in node.keywords]
                    if isinstance(node, ast.Return):
                        given = [node.value]
                    for value in given:
                        self.assertFalse(isinstance(value, ast.Name) and value.id in names, (path, function.name, node.lineno))

    def test_the_test_sees_what_is_wrong(self):
        for row in ["tree_of(ties, range(3))", "x = f(zip(a, b))", "x.f(enumerate(a))", "f(x=reversed(a))", "f(d.items())", "f(d.keys())",
                    "def f(d):\n    return d.values()", "def f(n):\n    return range(n)", "x = zip(a, b)", "x = [range(3)]", "x = d.items(), 1",
                    "len(zip(a, b))", "range(3) == x", "1 in zip(a, b)", "1 in d.values()"]:
            self.assertEqual(len(left_over(ast.parse(row))), 1, row)
        for row in ["f(list(range(3)))", "for x in zip(a, b): pass", "[x for x in d.items()]", "sorted(d.keys())", "x = range(3)", "len(range(3))",
                    "' '.join(d.values())", "x in range(3)", "x in d.keys()", "list(enumerate(zip(a, b)))", "d.get(1)"]:
            self.assertEqual(left_over(ast.parse(row)), [], row)
