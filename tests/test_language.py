"""The package's files keep to LANGUAGE.md, as far as tests/language.py reads it."""

import ast
import pathlib
import unittest

from language import FOREIGN, METHODS, PLAIN_NAME, faults_of, imports_of, methods_and_values, modules_behind

PACKAGE = pathlib.Path(__file__).resolve().parent.parent / "trudge"

OUTSIDE = (
    ("L2", "from os.path import join\n"),
    ("L2", "from .steps import stepped\n"),
    ("L3", "print(1)\n"),
    ("L3", "x = 10 ** 18\n"),
    ("L4", "def f(*xs):\n    return 1\n"),
    ("L5", "class A:\n    x = 1\n"),
    ("L6", "import sys\n"),
    ("L6", "def f(x):\n    a, b = x\n"),
    ("L6", "def f(x):\n    assert x\n"),
    ("L7", "def f(x):\n    return x / 2\n"),
    ("L7", "def f(x):\n    return 1.5\n"),
    ("L7", "def f(x):\n    return {y for y in x}\n"),
    ("L8", "def f(x):\n    return map(f, x)\n"),
    ("L10", "def f(x):\n" + "    x = 1\n" * 40),
    ("L10", "x = 1  # " + "x" * 120 + "\n"),
    ("L12", "def f(_x):\n    return 1\n"),
    ("L14", "# \u00e9\n"),
    ("L14", "def f(x):\n\treturn 1\n"),
    ("L15", "def f(min):\n    return 1\n"),
    ("L15", "from trudge.steps import stepped\ndef f(stepped):\n    return 1\n"),
    ("L15", "from trudge.steps import stepped\ndef f(x):\n    stepped = x\n"),
    ("L15", "class Far:\n    pass\ndef f(x):\n    return [Far for Far in x]\n"),
    ("L17", "# what type it is\n"),
    ("L17", "def f(x):\n    return open(x)\n"),
    ("L19", "def f(x):\n    try:\n        return x[0]\n    except TypeError:\n        return 1\n"),
    ("L20", "def f(x):\n    return x is f\n"),
    ("L23", "def f(x):\n    return reversed(x)\n"),
    ("L23", "def f(x):\n    return [y for y in reversed(range(x))]\n"),
    ("L23", "def f(x):\n    return [y for y in zip(x, range(3))]\n"),
    ("L23", "def f(x):\n    return x.items()\n"),
    ("L24", "def f(x):\n    y = set(x)\n    return 1\n"),
    ("L25", "def f(x):\n    x.sort()\n"),
    ("L27", "def f(x):\n    return 2 ** x\n"),
)


class LanguageTest(unittest.TestCase):
    def test_files(self):
        files = [path for path in PACKAGE.rglob("*") if "__pycache__" not in path.parts]
        self.assertIn(PACKAGE / "__init__.py", files)
        for path in files:
            self.assertTrue(path.is_file() and path.suffix == ".py", path)
            self.assertTrue(path.stem in ("__init__", "__main__") or PLAIN_NAME.match(path.stem), path)
            self.assertEqual(path.stem, path.stem.lower())

    def test_every_file_keeps_to_it(self):
        for path in sorted(PACKAGE.rglob("*.py")):
            with self.subTest(path.name):
                self.assertEqual(faults_of(path.read_text("utf-8"), "trudge"), [])

    def test_each_name_comes_from_the_file_that_defines_it(self):
        for path in sorted(PACKAGE.rglob("*.py")):
            for name, module in imports_of(ast.parse(path.read_text("utf-8"))).items():
                tree = ast.parse((PACKAGE.parent / (module.replace(".", "/") + ".py")).read_text("utf-8"))
                defined = [getattr(node, "name", None) or node.targets[0].id for node in tree.body
                           if isinstance(node, (ast.FunctionDef, ast.ClassDef, ast.Assign))]
                self.assertIn(name, defined, (path.name, module))

    def test_no_two_files_draw_from_one_another(self):
        drawn = {}
        for path in sorted(PACKAGE.rglob("*.py")):
            drawn["trudge." + path.stem] = set(imports_of(ast.parse(path.read_text("utf-8"))).values())
        for name in drawn:
            self.assertNotIn(name, modules_behind(name, drawn))

    def test_no_name_is_a_method_here_and_a_value_there(self):
        methods = set()
        values = set()
        for path in sorted(PACKAGE.rglob("*.py")):
            found = methods_and_values(ast.parse(path.read_text("utf-8")))
            methods |= set(found[0])
            values |= set(found[1])
        self.assertFalse(methods & values)
        self.assertFalse((methods | values) & (FOREIGN | METHODS))
        self.assertIn("say", methods)
        self.assertIn("label", values)

    def test_what_is_outside_is_seen(self):
        for rule, source in OUTSIDE:
            with self.subTest(source):
                self.assertIn(rule, [fault for fault, line in faults_of(source, "trudge")])


if __name__ == "__main__":
    unittest.main()
