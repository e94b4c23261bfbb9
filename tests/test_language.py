"""The rules of LANGUAGE.md that can be checked line by line or name by name (L5, L28: test_operators.py)."""

import ast
import builtins
import re
import unittest
import warnings

from sources import PACKAGE, files, nodes

LIBRARY = ["heapq", "math", "itertools", "collections", "__future__"]
# L8, and what L5 and L23 add to it.
ALLOWED_BUILTINS = """
    len range enumerate zip min max sum abs sorted reversed int str bool bytes list tuple dict set frozenset
    isinstance ord repr any all divmod pow getattr hasattr setattr iter next map super object
    property staticmethod classmethod
    Exception ValueError TypeError KeyError IndexError LookupError ZeroDivisionError ArithmeticError
    OverflowError RuntimeError NotImplementedError AttributeError StopIteration NotImplemented
""".split()
DECORATORS = ["property", "staticmethod", "classmethod"]
# L17: names that stand nowhere, and words that stand nowhere but in comments and docstrings.
BARRED_NAMES = "register mro elements open input law version_info with_traceback add_note".split()
BARRED_WORDS = """
    type typing typing_extensions enum Enum IntEnum StrEnum Flag IntFlag Generic Protocol ABC ABCMeta namedtuple
    NamedTuple TypedDict TYPE_CHECKING abstractmethod
""".split()
# L25, L26: no attribute has one of these names.
NO_ATTRIBUTES = """
    items keys values pop update append clear extend insert remove reverse setdefault sort args encode decode hex
    fromhex format format_map mro
""".split()


class Language(unittest.TestCase):
    def test_l1_l14_only_files_of_plain_names(self):
        found = [path for path in PACKAGE.rglob("*") if "__pycache__" not in path.parts]
        self.assertEqual(sorted(found), files())
        for path in files():
            self.assertRegex(path.name, r"\A[a-z0-9_]+\.py\Z")
        self.assertIn(PACKAGE / "__init__.py", files())

    def test_l10_l14_lines_and_signs(self):
        for path in files():
            text = path.read_bytes().decode("utf-8")
            self.assertIsNone(re.search(r"[^ -~\n]", text), path)
            self.assertLessEqual(len(text.splitlines()), 399, path)
            self.assertLessEqual(max(len(line) for line in text.splitlines()), 120, path)

    def test_l10_functions_are_short(self):
        for path in files():
            for node in nodes(path, ast.FunctionDef):
                self.assertLessEqual(node.end_lineno - node.lineno + 1, 40, f"{path} {node.name}")

    def test_l2_l16_imports(self):
        for path in files():
            self.assertEqual(nodes(path, ast.Import), [], path)
            for node in nodes(path, ast.ImportFrom):
                self.assertEqual(node.level, 0, path)
                if node.module in LIBRARY:
                    continue
                self.assertRegex(node.module, r"\Atombkeeper\.\w+\Z")
                source = PACKAGE / f"{node.module.split('.')[1]}.py"
                defined = [found.name for found in nodes(source, (ast.FunctionDef, ast.ClassDef))]
                defined += [name.id for name in nodes(source, ast.Name) if isinstance(name.ctx, ast.Store)]
                for name in node.names:
                    self.assertIn(name.name, defined, path)

    def test_l16_no_two_files_import_from_each_other(self):
        ahead = {
            path.stem: {node.module.split(".")[1] for node in nodes(path, ast.ImportFrom) if "." in node.module}
            for path in files()
        }
        while ahead:
            ready = [name for name, others in ahead.items() if not others & set(ahead)]
            self.assertNotEqual(ready, [], ahead)
            for name in ready:
                del ahead[name]

    def test_l8_l15_builtins(self):
        for path in files():
            for node in nodes(path, ast.Name):
                if node.id not in dir(builtins):
                    continue
                self.assertIn(node.id, ALLOWED_BUILTINS, f"{path} line {node.lineno}")
                self.assertIsInstance(node.ctx, ast.Load, f"{path} line {node.lineno}")
            for node in nodes(path, (ast.FunctionDef, ast.ClassDef)):
                self.assertNotIn(node.name, ALLOWED_BUILTINS, path)

    def test_l4_l6_l7_what_is_not_allowed(self):
        for path in files():
            self.assertEqual(nodes(path, (ast.Global, ast.AsyncFunctionDef, ast.Await, ast.Div)), [], path)
            for node in nodes(path, (ast.FunctionDef, ast.ClassDef)):
                for decorator in node.decorator_list:
                    self.assertIsInstance(node, ast.FunctionDef, path)
                    plain = isinstance(decorator, ast.Name) and decorator.id in DECORATORS
                    setter = isinstance(decorator, ast.Attribute) and decorator.attr == "setter"
                    self.assertTrue(plain or setter, f"{path} {node.name}")

    def test_l5_l18_l26_names_of_methods_properties_and_attributes(self):
        methods, properties, attributes, generators = [], [], [], []
        for path in files():
            for kind in nodes(path, ast.ClassDef):
                own = [node for node in kind.body if isinstance(node, ast.FunctionDef)]
                self.assertEqual(len({node.name for node in own}), len(own), kind.name)
                properties += [node.name for node in own if node.decorator_list]
                methods += [node.name for node in own if not node.decorator_list and node.name[:2] != "__"]
            for node in nodes(path, ast.Attribute):
                if isinstance(node.ctx, ast.Store):
                    attributes.append(node.attr)
            for node in nodes(path, ast.FunctionDef):
                if [one for one in ast.walk(node) if isinstance(one, (ast.Yield, ast.YieldFrom))]:
                    generators.append(node.name)
        self.assertEqual(set(attributes) & set(methods + properties), set())
        self.assertEqual(set(methods) & set(properties), set())
        self.assertEqual(set(attributes) & set(NO_ATTRIBUTES), set())
        self.assertEqual(set(methods + properties) & set(BARRED_NAMES + ["keys"]), set())
        functions = [node.name for path in files() for node in nodes(path, ast.FunctionDef)]
        for name in generators:
            self.assertEqual(functions.count(name), 1, name)

    def test_l12_l15_l17_names(self):
        for path in files():
            tree = ast.parse(path.read_text())
            taken = [name.name for node in nodes(path, ast.ImportFrom) for name in node.names]
            taken += [node.name for node in nodes(path, ast.ClassDef)]
            names = [node.id for node in nodes(path, ast.Name) if isinstance(node.ctx, ast.Store)]
            names += [node.arg for node in nodes(path, ast.arg)]
            for name in names:
                self.assertNotIn(name, taken, path)
                self.assertNotIn(name, BARRED_NAMES + dir(builtins), path)
                self.assertNotRegex(name, r"\A(__|_wall|_pe_|_dcw_|_enum_|_cm_|_lay_|_law_|_stub_|_sre)", path)
            bound = [node.name for node in tree.body if isinstance(node, (ast.FunctionDef, ast.ClassDef))]
            bound += taken[:-len(nodes(path, ast.ClassDef)) or None] if nodes(path, ast.ClassDef) else taken
            self.assertEqual(len(set(bound)), len(bound), path)

    def test_l17_words(self):
        for path in files():
            text = path.read_text()
            docs = [ast.get_docstring(node, False) for node in nodes(path, (ast.Module, ast.FunctionDef, ast.ClassDef))]
            for told in docs:
                text = text.replace(told or "\0", "")
            text = re.sub(r"#.*", "", text)
            for word in BARRED_WORDS:
                self.assertNotRegex(text, rf"\b{word}\b", path)

    def test_l20_is(self):
        for path in files():
            for node in nodes(path, ast.Compare):
                for sign, side in zip(node.ops, node.comparators):
                    if isinstance(sign, (ast.Is, ast.IsNot)):
                        self.assertIsInstance(side, ast.Constant, f"{path} line {node.lineno}")

    def test_l6_l7_l19_what_is_not_used_here(self):
        for path in files():
            kinds = (ast.GeneratorExp, ast.Match, ast.Lambda, ast.NamedExpr, ast.AnnAssign, ast.Starred, ast.With)
            for node in nodes(path, kinds):
                self.fail(f"{path} line {node.lineno}")

    def test_l19_only_own_errors_are_caught_and_raised(self):
        own = [node.name for node in nodes(PACKAGE / "errors.py", ast.ClassDef)]
        for path in files():
            for node in nodes(path, ast.Try):
                self.assertEqual(node.finalbody, [], path)
            for node in nodes(path, ast.ExceptHandler):
                self.assertIsInstance(node.type, ast.Name, f"{path} line {node.lineno}")
                self.assertIn(node.type.id, own, f"{path} line {node.lineno}")
            for node in nodes(path, ast.Raise):
                self.assertIsInstance(node.exc, ast.Call, f"{path} line {node.lineno}")
                self.assertIn(node.exc.func.id, own + ["TypeError", "NotImplementedError"], f"{path} line {node.lineno}")

    def test_l7_l24_where_sets_stand(self):
        for path in files():
            allowed = []
            for node in nodes(path, ast.Call):
                if isinstance(node.func, ast.Name) and node.func.id in ("sorted", "len"):
                    allowed += node.args
            for node in nodes(path, (ast.Set, ast.SetComp)):
                self.assertIn(ast.dump(node), [ast.dump(one) for one in allowed], f"{path} line {node.lineno}")
            for node in nodes(path, ast.Call):
                if isinstance(node.func, ast.Name) and node.func.id == "set":
                    self.assertIn(ast.dump(node), [ast.dump(one) for one in allowed], f"{path} line {node.lineno}")

    def test_l27_no_warnings_and_no_barred_signs_in_strings(self):
        for path in files():
            with warnings.catch_warnings():
                warnings.simplefilter("error")
                compile(path.read_text(), str(path), "exec")
            for node in nodes(path, ast.Constant):
                if isinstance(node.value, str):
                    self.assertNotIn("%", node.value, f"{path} line {node.lineno}")


if __name__ == "__main__":
    unittest.main()
