"""Rules of the language that can be read off the package's files: sizes, characters, imports, builtins."""

import ast
import builtins
import pathlib
import unittest

FOLDER = pathlib.Path(__file__).resolve().parent.parent / "leastattr"
FILES = sorted(FOLDER.rglob("*.py"))

LIBRARY = ("heapq", "math", "itertools", "collections")
BUILTINS = """len range enumerate zip min max sum abs sorted reversed int str bool list tuple dict set frozenset
    isinstance ord repr any all divmod pow getattr hasattr setattr iter next map type super property staticmethod
    classmethod Exception ValueError TypeError KeyError IndexError LookupError ZeroDivisionError ArithmeticError
    OverflowError RuntimeError NotImplementedError AttributeError StopIteration NotImplemented object""".split()
METHODS = ("__init__", "__eq__", "__repr__", "__str__", "__len__", "__call__", "__iter__")
BARRED = ("register", "mro", "elements", "open", "input", "law")
NODES = (ast.Await, ast.AsyncFunctionDef, ast.Global, ast.Import, ast.Div, ast.MatMult)


def parsed(path):
    """The syntax tree of a file."""
    return ast.parse(path.read_text(encoding="utf-8"))


def stated_names(tree):
    """All names that a file uses, gives or calls."""
    for node in ast.walk(tree):
        for field in ("id", "arg", "attr", "name"):
            name = getattr(node, field, None)
            if isinstance(name, str):
                yield name


class LanguageTest(unittest.TestCase):

    def test_the_folder_holds_files_of_the_package_alone(self):
        others = [path for path in FOLDER.rglob("*") if path.suffix != ".py" and "__pycache__" not in path.parts]
        self.assertEqual(others, [])
        self.assertIn(FOLDER / "__init__.py", FILES)
        self.assertFalse([path for path in FILES if path.name.startswith("test")])

    def test_sizes_and_characters(self):
        for path in FILES:
            text = path.read_text(encoding="utf-8")
            rows = text.split("\n")
            self.assertLess(len(rows), 400, path)
            self.assertLessEqual(max(len(row) for row in rows), 120, path)
            self.assertTrue(all(" " <= sign <= "~" or sign == "\n" for sign in text), path)
            for node in ast.walk(parsed(path)):
                if isinstance(node, ast.FunctionDef):
                    self.assertLessEqual(node.end_lineno - node.lineno + 1, 40, (path, node.name))

    def test_imports(self):
        for path in FILES:
            for node in ast.walk(parsed(path)):
                if isinstance(node, ast.ImportFrom):
                    own = node.level == 0 and node.module.startswith("leastattr.")
                    self.assertTrue(own or node.module in LIBRARY, (path, node.lineno))

    def test_no_two_files_import_from_each_other(self):
        imported = {}
        for path in FILES:
            modules = [node.module for node in ast.walk(parsed(path)) if isinstance(node, ast.ImportFrom)]
            imported["leastattr." + path.stem] = [name for name in modules if name.startswith("leastattr.")]
        while imported:
            free = [name for name in imported if not any(other in imported for other in imported[name])]
            self.assertTrue(free, sorted(imported))
            for name in free:
                del imported[name]

    def test_names_are_imported_from_the_files_that_define_them(self):
        for path in FILES:
            for node in ast.walk(parsed(path)):
                if isinstance(node, ast.ImportFrom) and node.module.startswith("leastattr."):
                    tree = parsed(FOLDER / (node.module.split(".")[1] + ".py"))
                    own = [part.name for part in tree.body if isinstance(part, (ast.FunctionDef, ast.ClassDef))]
                    own += [target.id for part in tree.body if isinstance(part, ast.Assign) for target in part.targets]
                    self.assertTrue(all(name.name in own and name.asname is None for name in node.names), path)

    def test_no_local_name_is_that_of_an_import_or_a_class(self):
        for path in FILES:
            tree = parsed(path)
            taken = [name.name for node in tree.body if isinstance(node, ast.ImportFrom) for name in node.names]
            taken += [node.name for node in tree.body if isinstance(node, ast.ClassDef)]
            for node in ast.walk(tree):
                if isinstance(node, ast.arg):
                    self.assertNotIn(node.arg, taken, (path, node.lineno))
                if isinstance(node, ast.Name) and isinstance(node.ctx, ast.Store):
                    self.assertNotIn(node.id, taken, (path, node.lineno))

    def test_no_generators(self):
        # Grammar and Code have an __eq__, so any, all, sum and the like take lists (L7).
        for path in FILES:
            for node in ast.walk(parsed(path)):
                self.assertNotIsInstance(node, (ast.GeneratorExp, ast.Yield, ast.YieldFrom), path)

    def test_sets_and_sorting(self):
        # No set is kept, and xs.sort() does not stand in a package in which a class has an __eq__ (L24, L25).
        for path in FILES:
            for node in ast.walk(parsed(path)):
                self.assertNotIsInstance(node, (ast.Set, ast.SetComp), path)
                if isinstance(node, ast.Attribute):
                    self.assertNotIn(node.attr, ("sort", "format", "encode", "decode"), path)

    def test_plain_nodes_and_values(self):
        for path in FILES:
            for node in ast.walk(parsed(path)):
                self.assertNotIsInstance(node, NODES, (path, getattr(node, "lineno", 0)))
                if isinstance(node, ast.Constant):
                    self.assertNotIsInstance(node.value, (float, complex), (path, node.lineno))

    def test_names(self):
        for path in FILES:
            for name in stated_names(parsed(path)):
                self.assertNotIn(name, BARRED, path)
                if name.startswith("__"):
                    self.assertIn(name, METHODS, path)
                elif hasattr(builtins, name):
                    self.assertIn(name, BUILTINS, path)


if __name__ == "__main__":
    unittest.main()
