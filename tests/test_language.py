"""The rules of LANGUAGE.md that can be checked line by line or name by name."""

import ast
import builtins
import pathlib
import re
import unittest
import warnings

PACKAGE = pathlib.Path(__file__).resolve().parent.parent / "tombkeeper"
LIBRARY = ["heapq", "math", "itertools", "collections", "__future__"]
# L8, and what L5 and L23 add to it.
ALLOWED_BUILTINS = """
    len range enumerate zip min max sum abs sorted reversed int str bool bytes list tuple dict set frozenset
    isinstance ord repr any all divmod pow getattr hasattr setattr iter next map super object
    property staticmethod classmethod
    Exception ValueError TypeError KeyError IndexError LookupError ZeroDivisionError ArithmeticError
    OverflowError RuntimeError NotImplementedError AttributeError StopIteration NotImplemented
""".split()
DECORATORS = ["property", "staticmethod", "classmethod"]


def files():
    return sorted(PACKAGE.rglob("*.py"))


def nodes(path, kinds):
    return [node for node in ast.walk(ast.parse(path.read_text())) if isinstance(node, kinds)]


class Language(unittest.TestCase):
    def test_l1_l14_only_files_of_plain_names(self):
        found = [path for path in PACKAGE.rglob("*") if "__pycache__" not in path.parts]
        self.assertEqual(sorted(found), files())
        for path in files():
            self.assertRegex(path.name, r"\A[a-z0-9_]+\.py\Z")
        self.assertIn(PACKAGE / "__init__.py", files())

    def test_l10_l14_lines_and_signs(self):
        for path in files():
            text = path.read_bytes().decode("utf-8")
            self.assertIsNone(re.search(r"[^ -~\n]", text), path)
            self.assertLessEqual(len(text.splitlines()), 399, path)
            self.assertLessEqual(max(len(line) for line in text.splitlines()), 120, path)

    def test_l10_functions_are_short(self):
        for path in files():
            for node in nodes(path, ast.FunctionDef):
                self.assertLessEqual(node.end_lineno - node.lineno + 1, 40, f"{path} {node.name}")

    def test_l2_l16_imports(self):
        for path in files():
            self.assertEqual(nodes(path, ast.Import), [], path)
            for node in nodes(path, ast.ImportFrom):
                self.assertEqual(node.level, 0, path)
                if node.module in LIBRARY:
                    continue
                self.assertRegex(node.module, r"\Atombkeeper\.\w+\Z")
                source = PACKAGE / f"{node.module.split('.')[1]}.py"
                defined = [found.name for found in nodes(source, (ast.FunctionDef, ast.ClassDef))]
                defined += [name.id for name in nodes(source, ast.Name) if isinstance(name.ctx, ast.Store)]
                for name in node.names:
                    self.assertIn(name.name, defined, path)

    def test_l8_l15_builtins(self):
        for path in files():
            for node in nodes(path, ast.Name):
                if node.id not in dir(builtins):
                    continue
                self.assertIn(node.id, ALLOWED_BUILTINS, f"{path} line {node.lineno}")
                self.assertIsInstance(node.ctx, ast.Load, f"{path} line {node.lineno}")
            for node in nodes(path, (ast.FunctionDef, ast.ClassDef)):
                self.assertNotIn(node.name, ALLOWED_BUILTINS, path)

    def test_l4_l6_l7_what_is_not_allowed(self):
        for path in files():
            self.assertEqual(nodes(path, (ast.Global, ast.AsyncFunctionDef, ast.Await, ast.Div)), [], path)
            for node in nodes(path, (ast.FunctionDef, ast.ClassDef)):
                for decorator in node.decorator_list:
                    self.assertIsInstance(node, ast.FunctionDef, path)
                    plain = isinstance(decorator, ast.Name) and decorator.id in DECORATORS
                    setter = isinstance(decorator, ast.Attribute) and decorator.attr == "setter"
                    self.assertTrue(plain or setter, f"{path} {node.name}")

    def test_l27_no_warnings_and_no_barred_signs_in_strings(self):
        for path in files():
            with warnings.catch_warnings():
                warnings.simplefilter("error")
                compile(path.read_text(), str(path), "exec")
            for node in nodes(path, ast.Constant):
                if isinstance(node.value, str):
                    self.assertNotIn("%", node.value, f"{path} line {node.lineno}")


if __name__ == "__main__":
    unittest.main()
