"""That the package keeps to its part of Python, as far as a walk over its files can see."""

import ast
import builtins
import pathlib
import re
import unittest

PACKAGE = pathlib.Path(__file__).resolve().parent.parent / "carriermoney"
FILES = sorted(PACKAGE.glob("*.py"))

OWN_NAMES = set("""len range enumerate zip min max sum abs sorted reversed int str bool list tuple dict set frozenset
    isinstance ord repr any all divmod Exception ValueError TypeError KeyError IndexError LookupError
    ZeroDivisionError ArithmeticError OverflowError RuntimeError NotImplementedError AttributeError
    StopIteration""".split())
OWN_METHODS = set("""append clear copy count endswith extend find get index insert isalnum isalpha isdigit islower
    isspace isupper items join keys ljust lower lstrip partition pop remove replace reverse rfind rjust rpartition
    rsplit rstrip setdefault split splitlines startswith strip update upper values zfill bit_length""".split())
METHODS_OF_PYTHON = set(dir(str) + dir(int) + dir(list) + dir(dict) + dir(set) + dir(bytes))
LEFT_OUT = """type typing typing_extensions enum Enum IntEnum StrEnum Flag IntFlag Generic Protocol ABC ABCMeta namedtuple
    NamedTuple TypedDict TYPE_CHECKING abstractmethod""".split()
LEFT_OUT_NAMES = set("register mro elements open input version_info with_traceback add_note format format_map".split())
NODES = set("""Module Expr Constant ImportFrom alias FunctionDef arguments arg ClassDef Assign AugAssign Name Load Store
    If While For Return Break Continue Pass Raise Try ExceptHandler Call keyword Attribute Subscript Slice List Tuple Dict
    ListComp comprehension Lambda IfExp BinOp UnaryOp BoolOp Compare Add Sub Mult FloorDiv Mod Pow BitAnd BitOr BitXor
    LShift RShift USub Invert Not And Or Eq NotEq Lt LtE Gt GtE Is IsNot In NotIn JoinedStr FormattedValue""".split())


def stored_names(tree):
    names = [node.id for node in ast.walk(tree) if isinstance(node, ast.Name) and isinstance(node.ctx, ast.Store)]
    names += [node.arg for node in ast.walk(tree) if isinstance(node, ast.arg)]
    return names + [node.name for node in ast.walk(tree) if isinstance(node, (ast.FunctionDef, ast.ClassDef))]


class LanguageTest(unittest.TestCase):
    def trees(self):
        return [ast.parse(path.read_text("utf-8")) for path in FILES]

    def walk(self, *kinds):
        return [node for tree in self.trees() for node in ast.walk(tree) if isinstance(node, kinds)]

    def test_nothing_else_lies_in_the_package(self):
        others = [path.name for path in PACKAGE.iterdir() if path not in FILES and path.name != "__pycache__"]
        self.assertEqual(others, [])
        self.assertIn(PACKAGE / "__init__.py", FILES)

    def test_signs_lengths_and_words(self):
        for path in FILES:
            text = path.read_text("utf-8")
            self.assertRegex(text, r"\A[ -~\n]*\Z", path.name)
            self.assertLessEqual(len(text.splitlines()), 400, path.name)
            self.assertLessEqual(max(len(line) for line in text.splitlines()), 120, path.name)
            words = re.findall(r"\w+", text)
            self.assertEqual([word for word in words if word in LEFT_OUT], [], path.name)
            self.assertIsNone(re.search("dataclass|overload|contextmanager", text), path.name)

    def test_functions_are_short_and_plain(self):
        for node in self.walk(ast.FunctionDef):
            self.assertLessEqual(node.end_lineno - node.lineno + 1, 40, node.name)
            self.assertEqual(node.decorator_list, [])
            self.assertIsNone(node.args.vararg or node.args.kwarg or (node.args.kwonlyargs or None))

    def test_only_plain_statements_and_expressions(self):
        for node in self.walk(ast.AST):
            self.assertIn(node.__class__.__name__, NODES, getattr(node, "lineno", 0))
            if isinstance(node, ast.Constant):
                self.assertIn(node.value.__class__, (int, str, bool, None.__class__))
            if isinstance(node, ast.Assign):
                self.assertEqual(len(node.targets), 1)
            if isinstance(node, (ast.For, ast.While)):
                self.assertEqual(node.orelse, [])

    def test_imports_are_of_the_package_alone(self):
        for node in self.walk(ast.ImportFrom):
            self.assertEqual(node.level, 0)
            self.assertTrue(node.module.startswith("carriermoney."), node.module)
            defined = stored_names(ast.parse((PACKAGE / (node.module.split(".")[1] + ".py")).read_text("utf-8")))
            for name in node.names:
                self.assertIn(name.name, defined)
                self.assertIsNone(name.asname)

    def test_names(self):
        for tree in self.trees():
            imported = [name.name for node in tree.body if isinstance(node, ast.ImportFrom) for name in node.names]
            for name in stored_names(tree):
                self.assertTrue(name == "__init__" or re.fullmatch("[A-Za-z][A-Za-z0-9_]*", name), name)
                self.assertNotIn(name, dir(builtins))
                self.assertNotIn(name, imported)
                self.assertNotIn(name, LEFT_OUT_NAMES)
            for node in ast.walk(tree):
                if isinstance(node, ast.Name) and node.id in dir(builtins):
                    self.assertIn(node.id, OWN_NAMES)

    def test_values_and_methods(self):
        methods = [node.name for node in self.walk(ast.FunctionDef) if node.args.args[:1]
                   and node.args.args[0].arg == "self"]
        for node in self.walk(ast.Attribute):
            self.assertNotIn(node.attr, LEFT_OUT_NAMES)
            if isinstance(node.ctx, ast.Store):
                self.assertNotIn(node.attr, METHODS_OF_PYTHON)
                self.assertNotIn(node.attr, methods)
            elif node.attr in METHODS_OF_PYTHON:
                self.assertIn(node.attr, OWN_METHODS)

    def test_is_stands_beside_none_true_and_false(self):
        for node in self.walk(ast.Compare):
            for sign, right in zip(node.ops, node.comparators):
                if isinstance(sign, (ast.Is, ast.IsNot)):
                    self.assertIn(ast.unparse(right), ("None", "True", "False"))


if __name__ == "__main__":
    unittest.main()
