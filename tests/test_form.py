"""The form of the package's files, as far as a reader of their trees can tell it (LANGUAGE.md)."""

import ast
import unittest
from pathlib import Path

PACKAGE = Path(__file__).resolve().parent.parent / "rootsabove"
FILES = sorted(path for path in PACKAGE.rglob("*") if path.is_file() and path.suffix != ".pyc")
BUILTINS = set("""len range enumerate zip min max sum abs sorted reversed int str bool list tuple dict set isinstance
    ord repr any all divmod type super ValueError""".split())
LIBRARY = {"math": {"gcd", "lcm", "isqrt", "comb"}, "itertools": {"combinations", "permutations", "product"}}
METHODS = {"append", "extend", "items", "keys", "values", "get", "pop", "remove"}
STATEMENTS = (
    ast.FunctionDef, ast.ClassDef, ast.Return, ast.Assign, ast.AugAssign, ast.For, ast.While, ast.If, ast.Raise,
    ast.Expr, ast.Pass, ast.Break, ast.Continue, ast.ImportFrom, ast.Try,
)
NOT_NAMES = set("""mro elements open input law register compile copyright credits dir eval exec exit gc globals help id
    license locals os quit vars sys hash filter format map next iter round print bytes object""".split())


def names_bound(tree):
    for node in ast.walk(tree):
        if isinstance(node, (ast.FunctionDef, ast.ClassDef)):
            yield node.name
        elif isinstance(node, ast.arg):
            yield node.arg
        elif isinstance(node, ast.Name) and isinstance(node.ctx, ast.Store):
            yield node.id


def functions_above(tree, node):
    return {other.name for other in tree.body if isinstance(other, ast.FunctionDef) and other.lineno < node.lineno}


def is_plain(value, functions):
    """Numbers, texts, tuples and dicts of them, and of functions defined above."""
    if isinstance(value, ast.Dict):
        return all(isinstance(ast.literal_eval(key), (int, str)) and not isinstance(part, (ast.Dict, ast.List))
                   and is_plain(part, functions) for key, part in zip(value.keys, value.values))
    if isinstance(value, ast.Name):
        return value.id in functions
    return isinstance(ast.literal_eval(value), (int, str, tuple))


class Form(unittest.TestCase):
    def test_files(self):
        self.assertIn(PACKAGE / "__init__.py", FILES)
        for path in FILES:
            self.assertEqual(path.suffix, ".py", path)

    def test_characters_and_sizes(self):
        for path in FILES:
            text = path.read_text(encoding="ascii")
            lines = text.split("\n")
            with self.subTest(path.name):
                self.assertTrue(all(" " <= sign <= "~" or sign == "\n" for sign in text))
                self.assertLessEqual(len(lines), 399)
                self.assertLessEqual(max(len(line) for line in lines), 120)
                self.assertNotIn(True, [line.endswith(" ") for line in lines])

    def each_tree(self):
        for path in FILES:
            yield path.name, ast.parse(path.read_text())

    def test_module_level(self):
        for name, tree in self.each_tree():
            for place, node in enumerate(tree.body):
                plain = isinstance(node, ast.Assign) and is_plain(node.value, functions_above(tree, node))
                text = place == 0 and isinstance(node, ast.Expr) and isinstance(node.value.value, str)
                known = isinstance(node, (ast.FunctionDef, ast.ClassDef, ast.ImportFrom))
                self.assertTrue(plain or text or known, (name, node.lineno))

    def test_imports(self):
        for name, tree in self.each_tree():
            for node in ast.walk(tree):
                self.assertNotIsInstance(node, ast.Import, name)
                if isinstance(node, ast.ImportFrom):
                    self.assertEqual(node.level, 0)
                    self.assertTrue(all(alias.asname is None for alias in node.names))
                    if node.module in LIBRARY:
                        self.assertLessEqual({alias.name for alias in node.names}, LIBRARY[node.module])
                    else:
                        path = PACKAGE.parent / (node.module.replace(".", "/") + ".py")
                        self.assertIn(path, FILES)
                        defined = set(names_bound(ast.parse(path.read_text())))
                        self.assertLessEqual({alias.name for alias in node.names}, defined)

    def test_statements(self):
        for name, tree in self.each_tree():
            for node in ast.walk(tree):
                if isinstance(node, ast.stmt):
                    self.assertIsInstance(node, STATEMENTS, (name, node.lineno))
                if isinstance(node, (ast.FunctionDef, ast.ClassDef)):
                    self.assertEqual(node.decorator_list, [])
                if isinstance(node, ast.Try):
                    self.assertEqual([handler.type.id for handler in node.handlers], ["RootError"])
                    self.assertEqual((node.orelse, node.finalbody), ([], []))
                if isinstance(node, ast.FunctionDef):
                    self.assertLessEqual(node.end_lineno - node.lineno + 1, 40, (name, node.name))
                    self.assertFalse(node.args.vararg or node.args.kwarg or node.args.kwonlyargs)

    def test_expressions(self):
        for name, tree in self.each_tree():
            for node in ast.walk(tree):
                where = (name, getattr(node, "lineno", None))
                self.assertNotIsInstance(node, (ast.Div, ast.Set, ast.SetComp, ast.Lambda, ast.NamedExpr, ast.Pow), where)
                if isinstance(node, ast.Constant):
                    self.assertIsInstance(node.value, (int, str, type(None)), where)
                    self.assertFalse(isinstance(node.value, str) and "%" in node.value, where)
                if isinstance(node, ast.Attribute) and isinstance(node.ctx, ast.Load):
                    self.assertIn(node.attr, METHODS | {"__init__"}, where)

    def test_names(self):
        for name, tree in self.each_tree():
            bound = set(names_bound(tree))
            imported = {alias.name for node in ast.walk(tree) if isinstance(node, ast.ImportFrom) for alias in node.names}
            self.assertFalse(bound & (BUILTINS | NOT_NAMES), name)
            self.assertFalse(bound & imported, name)
            for node in ast.walk(tree):
                if isinstance(node, ast.Name) and isinstance(node.ctx, ast.Load):
                    self.assertIn(node.id, bound | imported | BUILTINS, (name, node.lineno))
            used = {node.id for node in ast.walk(tree) if isinstance(node, ast.Name) and isinstance(node.ctx, ast.Load)}
            self.assertLessEqual(imported, used, name)

    def test_no_ring_of_imports(self):
        wanted = {}
        for name, tree in self.each_tree():
            wanted["rootsabove." + name[:-3]] = {node.module for node in ast.walk(tree) if isinstance(node, ast.ImportFrom)
                                                 and node.module not in LIBRARY}
        while wanted:
            free = [name for name, others in wanted.items() if not others & set(wanted)]
            self.assertTrue(free, wanted)
            for name in free:
                del wanted[name]


if __name__ == "__main__":
    unittest.main()
