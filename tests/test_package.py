"""The form of the package's own files: no clock, chance, file or network can be reached,
for nothing but the package itself is imported and few of Python's own names are used."""

import ast
import builtins
import pathlib
import unittest

PACKAGE = pathlib.Path(__file__).resolve().parent.parent / "coinrows"
MODULES = ("__init__", "boards", "errors", "field", "notes", "rows", "shapes")
ALLOWED = set(
    "len range enumerate zip min max sum abs sorted reversed int str bool list tuple dict set frozenset "
    "isinstance ord repr any all divmod Exception ValueError TypeError KeyError IndexError LookupError "
    "ZeroDivisionError ArithmeticError OverflowError RuntimeError NotImplementedError".split()
)
# Docstrings of modules apart, a statement is one of these, and an expression that stands by itself is a call.
STATEMENTS = (
    ast.Assign, ast.AugAssign, ast.If, ast.While, ast.For, ast.Return, ast.Break, ast.Continue, ast.Pass,
    ast.Raise, ast.Try, ast.Expr, ast.FunctionDef, ast.ClassDef, ast.ImportFrom,
)


def sources():
    return sorted(PACKAGE.rglob("*.py"))


def trees():
    return [(path.name, ast.parse(path.read_text(encoding="utf-8"))) for path in sources()]


class PackageTest(unittest.TestCase):
    def test_the_modules_of_the_program_are_there_and_nothing_else_lies_beside_them(self):
        found = [path.name for path in PACKAGE.iterdir() if path.name != "__pycache__"]
        for module in MODULES:
            self.assertIn(module + ".py", found)
        self.assertEqual([name for name in found if not name.endswith(".py")], [])

    def test_imports_are_the_packages_own(self):
        for name, tree in trees():
            for node in ast.walk(tree):
                self.assertNotIsInstance(node, ast.Import, name)
                if isinstance(node, ast.ImportFrom):
                    self.assertEqual(node.level, 0, name)
                    self.assertTrue(node.module.startswith("coinrows."), name)
                    self.assertIn(node, tree.body, name)

    def test_few_of_pythons_own_names_are_used_and_none_is_bound(self):
        own = set(vars(builtins))
        for name, tree in trees():
            for node in ast.walk(tree):
                if isinstance(node, ast.Name) and node.id in own:
                    self.assertIn(node.id, ALLOWED, name)
                    self.assertIsInstance(node.ctx, ast.Load, name)
                if isinstance(node, ast.arg):
                    self.assertNotIn(node.arg, own, name)

    def test_names_begin_with_no_underscore(self):
        for name, tree in trees():
            for node in ast.walk(tree):
                for field in ("id", "arg", "attr", "name"):
                    word = getattr(node, field, None)
                    if isinstance(word, str) and word != "__init__":
                        self.assertFalse(word.startswith("_"), (name, word))

    def test_statements_are_plain(self):
        for name, tree in trees():
            self.assertIsNotNone(ast.get_docstring(tree), name)
            for node in ast.walk(tree):
                if isinstance(node, ast.stmt):
                    self.assertIsInstance(node, STATEMENTS, (name, node.lineno))
                if isinstance(node, ast.Expr) and node is not tree.body[0]:
                    self.assertIsInstance(node.value, ast.Call, (name, node.lineno))

    def test_sizes_and_signs(self):
        for path in sources():
            lines = path.read_text(encoding="utf-8").split("\n")
            self.assertLessEqual(len(lines), 401, path.name)
            for line in lines:
                self.assertLessEqual(len(line), 120, path.name)
                self.assertTrue(all(" " <= sign <= "~" for sign in line), path.name)
        for name, tree in trees():
            for node in ast.walk(tree):
                if isinstance(node, ast.FunctionDef):
                    self.assertLessEqual(node.end_lineno - node.lineno + 1, 40, (name, node.name))


if __name__ == "__main__":
    unittest.main()
