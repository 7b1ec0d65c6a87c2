"""The package keeps to the small part of Python that it is written in, as far as its syntax shows that."""

import ast
import builtins
import pathlib
import re
import unittest

PACKAGE = pathlib.Path(__file__).resolve().parent.parent / "smallduels"
FILES = sorted(PACKAGE.glob("*.py"))

STATEMENTS = (ast.FunctionDef, ast.ClassDef, ast.ImportFrom, ast.Assign, ast.AugAssign, ast.If, ast.While, ast.For,
              ast.Return, ast.Break, ast.Continue, ast.Pass, ast.Raise, ast.Try, ast.Expr)
BUILT_IN = set(
    "len range enumerate zip min max sum abs sorted reversed int str bool list tuple dict set frozenset isinstance ord "
    "repr any all divmod Exception ValueError KeyError IndexError LookupError ZeroDivisionError RuntimeError "
    "True False None".split())
METHODS = set(
    "append clear copy count endswith extend find get index insert items join keys pop remove replace reverse "
    "setdefault split startswith strip update values bit_length".split())
WORDS = re.compile(r"\b(type|typing|enum|Enum|Flag|Generic|Protocol|ABC|namedtuple|NamedTuple)\b|dataclass|overload")


def trees():
    return [(path.name, path.read_text(), ast.parse(path.read_text())) for path in FILES]


def nodes(*kinds):
    return [(name, node) for name, text, tree in trees() for node in ast.walk(tree) if isinstance(node, kinds)]


class Language(unittest.TestCase):
    def test_files(self):
        self.assertIn("__init__.py", [path.name for path in FILES])
        others = [path.name for path in PACKAGE.iterdir() if path not in FILES and path.name != "__pycache__"]
        self.assertEqual(others, [])

    def test_size_and_signs(self):
        for name, text, tree in trees():
            lines = text.split("\n")
            self.assertLessEqual(len(lines), 400, name)
            self.assertLessEqual(max(len(line) for line in lines), 120, name)
            self.assertEqual([sign for sign in text if sign != "\n" and not " " <= sign <= "~"], [], name)
            self.assertIsNone(WORDS.search(text), name)
        for name, node in nodes(ast.FunctionDef):
            self.assertLessEqual(node.end_lineno - node.lineno + 1, 40, (name, node.name))

    def test_statements(self):
        for name, node in nodes(ast.stmt):
            self.assertIsInstance(node, STATEMENTS, (name, node.lineno))
        for name, node in nodes(ast.Assign):
            self.assertEqual(len(node.targets), 1, (name, node.lineno))
            self.assertNotIsInstance(node.targets[0], (ast.Tuple, ast.List), (name, node.lineno))
        for name, node in nodes(ast.For, ast.While):
            self.assertEqual(node.orelse, [], (name, node.lineno))
        for name, node in nodes(ast.FunctionDef, ast.ClassDef):
            self.assertEqual(node.decorator_list, [], (name, node.lineno))

    def test_expressions(self):
        banned = (ast.SetComp, ast.DictComp, ast.GeneratorExp, ast.NamedExpr, ast.Starred, ast.Pow, ast.Div, ast.Set)
        self.assertEqual(nodes(*banned), [])
        for name, node in nodes(ast.Constant):
            self.assertIn(node.value.__class__, (int, str, bool, None.__class__), (name, node.lineno))
        for name, node in nodes(ast.ListComp):
            self.assertEqual(len(node.generators), 1, (name, node.lineno))
            self.assertLessEqual(len(node.generators[0].ifs), 1, (name, node.lineno))

    def test_imports(self):
        for name, node in nodes(ast.ImportFrom):
            self.assertEqual(node.level, 0, name)
            self.assertTrue(node.module.startswith("smallduels."), name)
            self.assertTrue((PACKAGE / (node.module.split(".")[1] + ".py")).exists(), name)

    def test_names(self):
        for name, node in nodes(ast.Name):
            self.assertFalse(node.id.startswith("_"), (name, node.lineno))
            if isinstance(node.ctx, ast.Store):
                self.assertNotIn(node.id, dir(builtins), (name, node.lineno))
            elif node.id in dir(builtins):
                self.assertIn(node.id, BUILT_IN, (name, node.lineno))
        for name, node in nodes(ast.arg):
            self.assertNotIn(node.arg, dir(builtins), (name, node.lineno))

    def test_methods(self):
        own = {node.name for name, node in nodes(ast.FunctionDef)}
        for name, node in nodes(ast.Call):
            if isinstance(node.func, ast.Attribute):
                self.assertIn(node.func.attr, METHODS | own, (name, node.lineno))


if __name__ == "__main__":
    unittest.main()
