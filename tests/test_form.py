"""The form of the package's files, as far as it can be read off them."""

import ast
import builtins
import os
import re
import unittest

import meankept

FOLDER = os.path.dirname(meankept.__file__)

BUILTINS = set("""len range enumerate zip min max sum abs sorted reversed int str bool bytes list tuple
dict set frozenset isinstance ord repr any all divmod pow getattr hasattr setattr type iter next map super
property staticmethod classmethod Exception ValueError TypeError KeyError IndexError LookupError
ZeroDivisionError ArithmeticError OverflowError RuntimeError NotImplementedError AttributeError
StopIteration NotImplemented""".split())

LIBRARY = {
    "heapq": {"heappush", "heappop", "heapify", "heapreplace", "heappushpop"},
    "math": {"gcd", "lcm", "isqrt", "comb", "perm", "factorial"},
    "itertools": {"product", "combinations", "permutations", "chain", "accumulate", "pairwise", "islice",
                  "zip_longest"},
    "collections": {"defaultdict", "deque"},
}

NOWHERE = set("""register mro elements open input law version_info with_traceback add_note""".split())

NODES_NOT_ALLOWED = (ast.AsyncFunctionDef, ast.AsyncFor, ast.AsyncWith, ast.Await, ast.Div, ast.MatMult,
                     ast.Import)


def files():
    """Return the paths of all files of the package, by their names."""
    return {name: os.path.join(FOLDER, name) for name in sorted(os.listdir(FOLDER)) if name != "__pycache__"}


def texts():
    """Return the text of each file of the package."""
    found = {}
    for name, path in files().items():
        with open(path, encoding="utf-8", newline="") as file:
            found[name] = file.read()
    return found


def bound_names(tree):
    """Return all names that a file binds to anything."""
    found = set()
    for node in ast.walk(tree):
        if isinstance(node, (ast.FunctionDef, ast.ClassDef)):
            found.add(node.name)
        elif isinstance(node, ast.arg):
            found.add(node.arg)
        elif isinstance(node, ast.Name) and not isinstance(node.ctx, ast.Load):
            found.add(node.id)
        elif isinstance(node, ast.alias):
            found.add(node.asname or node.name)
        elif isinstance(node, ast.ExceptHandler) and node.name:
            found.add(node.name)
    return found


def top_names(tree):
    """Return the names that a file defines at module level."""
    found = set()
    for node in tree.body:
        if isinstance(node, (ast.FunctionDef, ast.ClassDef)):
            found.add(node.name)
        elif isinstance(node, ast.Assign):
            found.update(target.id for target in node.targets)
    return found


class FormTest(unittest.TestCase):
    def setUp(self):
        self.texts = texts()
        self.trees = {name: ast.parse(text) for name, text in self.texts.items()}

    def test_files(self):
        for name, path in files().items():
            self.assertTrue(os.path.isfile(path), name)
            self.assertRegex(name, r"\A(__init__|[a-z][a-z0-9_]*)\.py\Z")

    def test_sizes_and_characters(self):
        for name, text in self.texts.items():
            self.assertRegex(text, r"\A[ -~\n]*\Z", name)
            lines = text.split("\n")
            self.assertLessEqual(len(lines), 400, name)
            for line in lines:
                self.assertLessEqual(len(line), 120, (name, line))
            for node in ast.walk(self.trees[name]):
                if isinstance(node, ast.FunctionDef):
                    self.assertLessEqual(node.end_lineno - node.lineno + 1, 40, (name, node.name))

    def test_module_level(self):
        allowed = (ast.ImportFrom, ast.FunctionDef, ast.ClassDef, ast.Assign)
        for name, tree in self.trees.items():
            for at, node in enumerate(tree.body):
                if at == 0 and isinstance(node, ast.Expr) and isinstance(node.value, ast.Constant):
                    continue
                self.assertIsInstance(node, allowed, name)

    def test_imports(self):
        for name, tree in self.trees.items():
            for node in ast.walk(tree):
                if not isinstance(node, ast.ImportFrom):
                    continue
                self.assertIn(node, tree.body, name)
                self.assertEqual(node.level, 0, name)
                names = {alias.name for alias in node.names}
                if node.module in LIBRARY:
                    self.assertLessEqual(names, LIBRARY[node.module], name)
                    continue
                self.assertTrue(node.module.startswith("meankept."), name)
                theirs = self.trees[node.module.split(".")[1] + ".py"]
                self.assertLessEqual(names, top_names(theirs), name)
                self.assertTrue(all(alias.asname is None for alias in node.names), name)

    def test_no_two_files_import_from_each_other(self):
        needs = {}
        for name, tree in self.trees.items():
            needs[name] = {node.module.split(".")[1] + ".py" for node in tree.body
                           if isinstance(node, ast.ImportFrom) and node.module.startswith("meankept.")}
        while needs:
            free = [name for name in needs if not needs[name] & set(needs)]
            self.assertTrue(free, f"these import from each other: {sorted(needs)}")
            for name in free:
                del needs[name]

    def test_each_import_is_used(self):
        for name, tree in self.trees.items():
            used = {node.id for node in ast.walk(tree) if isinstance(node, ast.Name)}
            for node in tree.body:
                if isinstance(node, ast.ImportFrom):
                    self.assertLessEqual({alias.name for alias in node.names}, used, name)

    def test_statements_and_values(self):
        for name, tree in self.trees.items():
            for node in ast.walk(tree):
                self.assertNotIsInstance(node, NODES_NOT_ALLOWED, name)
                if isinstance(node, ast.Constant):
                    self.assertNotIsInstance(node.value, (float, complex), name)

    def test_builtins(self):
        known = set(dir(builtins))
        for name, tree in self.trees.items():
            self.assertFalse(bound_names(tree) & known, name)
            used = {node.id for node in ast.walk(tree) if isinstance(node, ast.Name)}
            self.assertLessEqual(used & known, BUILTINS, name)
            self.assertLessEqual(used, bound_names(tree) | BUILTINS, name)

    def test_names(self):
        for name, tree in self.trees.items():
            attributes = {node.attr for node in ast.walk(tree) if isinstance(node, ast.Attribute)}
            self.assertFalse((bound_names(tree) | attributes) & NOWHERE, name)
            for word in bound_names(tree):
                special = re.fullmatch(r"__[a-z]+__", word)
                self.assertTrue(special or re.fullmatch(r"_?[A-Za-z][A-Za-z0-9_]*|_", word), (name, word))

    def test_no_local_name_hides_a_name_of_the_file(self):
        for name, tree in self.trees.items():
            outer = {alias.asname or alias.name for node in tree.body if isinstance(node, ast.ImportFrom)
                     for alias in node.names} | top_names(tree)
            for node in ast.walk(tree):
                if isinstance(node, ast.arg):
                    self.assertNotIn(node.arg, outer, name)
                if isinstance(node, ast.Name) and not isinstance(node.ctx, ast.Load) and node.col_offset > 0:
                    self.assertNotIn(node.id, outer, name)

    def test_library_names_are_only_called(self):
        for name, tree in self.trees.items():
            taken = {alias.name for node in tree.body
                     if isinstance(node, ast.ImportFrom) and node.module in LIBRARY for alias in node.names}
            called = [node.func for node in ast.walk(tree) if isinstance(node, ast.Call)]
            for node in ast.walk(tree):
                if isinstance(node, ast.Name) and node.id in taken:
                    self.assertIn(node, called, name)

    def test_each_function_and_class_says_what_it_is(self):
        for name, tree in self.trees.items():
            self.assertTrue(ast.get_docstring(tree), name)
            for node in tree.body:
                if isinstance(node, (ast.FunctionDef, ast.ClassDef)):
                    self.assertTrue(ast.get_docstring(node), (name, node.name))


if __name__ == "__main__":
    unittest.main()
