"""The form of the language, rule L23: ranges, zips and views are walked on the spot."""

import ast
import pathlib
import unittest

from carfax import errors

FOLDER = pathlib.Path(errors.__file__).parent

MAKERS = ("range", "zip", "enumerate", "reversed")
VIEWS = ("items", "keys", "values")
WALKERS = ("list", "tuple", "dict", "sorted", "sum", "any", "all", "enumerate", "zip", "bytes", "min", "max")


def is_walked_once(node):
    """Tells whether a node makes a range, a zip or the like, or a view of a dict."""
    if not isinstance(node, ast.Call):
        return False
    if isinstance(node.func, ast.Name):
        return node.func.id in MAKERS
    return isinstance(node.func, ast.Attribute) and node.func.attr in VIEWS


def name_of(call):
    return call.func.id if isinstance(call.func, ast.Name) else None


def kept_names(tree):
    """The pairs of a function and a name that it assigns a range or the like."""
    return [
        (function, target.id)
        for function in ast.walk(tree) if isinstance(function, ast.FunctionDef)
        for node in ast.walk(function) if isinstance(node, ast.Assign) and is_walked_once(node.value)
        for target in node.targets if isinstance(target, ast.Name)
    ]


def passed_on(tree):
    """The rows in which a range or the like, or a name that keeps one, is passed to what does not walk it at once."""
    found = []
    for scope, kept in [(tree, None)] + kept_names(tree):
        for call in ast.walk(scope):
            if not isinstance(call, ast.Call) or name_of(call) in WALKERS + ("len", "reversed"):
                continue
            given = [word.value for word in call.keywords] + call.args
            if any(is_walked_once(one) if kept is None else getattr(one, "id", None) == kept for one in given):
                found.append(call.lineno)
    return sorted(found)


class PassedOnTest(unittest.TestCase):
    def test_nothing_is_passed_on(self):
        for path in sorted(FOLDER.glob("**/*.py")):
            with self.subTest(file=path.name):
                self.assertEqual(passed_on(ast.parse(path.read_text(encoding="ascii"))), [])

    def test_what_is_found(self):
        for told in (
            "says(range(3))", "says(1, range(3), 2)", "says(times=range(3))", "says.on(zip(a, b))", "says(d.items())",
            "said.append(reversed(a))", "says(enumerate(a))", "def f(a):\n    times = range(a)\n    says(times)",
        ):
            with self.subTest(told=told):
                self.assertEqual(passed_on(ast.parse(told)), [len(told.split("\n"))])

    def test_what_is_not_found(self):
        for told in (
            "says(list(range(3)))", "for k in range(3): says(k)", "says([k for k in zip(a, b)])", "says(len(range(3)))",
            "for k in reversed(range(3)): says(k)", "def f(a):\n    times = range(a)\n    says(list(times))",
        ):
            with self.subTest(told=told):
                self.assertEqual(passed_on(ast.parse(told)), [])


if __name__ == "__main__":
    unittest.main()
