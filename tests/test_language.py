"""The rules of the language that can be seen without running the package."""

import ast
import builtins
import unittest
from pathlib import Path

import norowstray

FOLDER = Path(norowstray.__file__).parent
FILES = sorted(FOLDER.glob("*.py"))

BUILTINS = set("""len range enumerate zip min max sum abs sorted reversed int str bool bytes list tuple dict set
    frozenset isinstance ord repr any all divmod super Exception ValueError TypeError KeyError IndexError
    LookupError ZeroDivisionError""".split())
METHODS = set("""append clear copy count endswith extend find get index insert isalnum isalpha isdigit islower isspace
    isupper items join keys ljust lower lstrip partition pop remove replace reverse rfind rjust rpartition rsplit
    rstrip setdefault split splitlines startswith strip update upper values zfill bit_length add discard sort
    __init__""".split())
LIBRARY = {"heapq": {"heappush", "heappop"}, "itertools": {"combinations", "product", "permutations"},
           "collections": {"deque", "defaultdict"}}
BARRED = (ast.Global, ast.AsyncFunctionDef, ast.Await, ast.Set) + ((ast.TryStar,) if hasattr(ast, "TryStar") else ())


class LanguageTest(unittest.TestCase):
    def each(self):
        texts = [(path.name, path.read_text(encoding="utf-8")) for path in FILES]
        return [(name, text, ast.parse(text, name)) for name, text in texts]

    def test_folder_holds_source_files_alone(self):
        names = {path.name for path in FOLDER.iterdir()} - {"__pycache__"}
        self.assertEqual(names, {path.name for path in FILES})

    def test_size_and_characters(self):
        for _, text, tree in self.each():
            lines = text.split("\n")
            self.assertLessEqual(len(lines), 400)
            self.assertLessEqual(max(len(line) for line in lines), 120)
            self.assertTrue(all(c == "\n" or " " <= c <= "~" for c in text))
            for node in ast.walk(tree):
                if isinstance(node, ast.FunctionDef):
                    self.assertLessEqual(node.end_lineno - node.lineno + 1, 40, node.name)

    def test_statements(self):
        for _, _, tree in self.each():
            for node in ast.walk(tree):
                self.assertNotIsInstance(node, BARRED)
                if isinstance(node, (ast.FunctionDef, ast.ClassDef)) and node.name != "__init__":
                    self.assertIsNotNone(ast.get_docstring(node), node.name)
                if isinstance(node, ast.Constant):
                    self.assertNotIsInstance(node.value, float)
                    if isinstance(node.value, str):
                        self.assertNotIn("%", node.value)

    def test_imports(self):
        for _, _, tree in self.each():
            for node in ast.walk(tree):
                self.assertNotIsInstance(node, ast.Import)
                if isinstance(node, ast.ImportFrom):
                    names = {name.name for name in node.names}
                    if not node.module.startswith("norowstray."):
                        self.assertLessEqual(names, LIBRARY[node.module])
                    self.assertTrue(all(name.asname is None for name in node.names))

    def test_names_of_builtins(self):
        # A doctest that has run leaves "_" among the builtins.
        known = set(dir(builtins)) - {"_"}
        for _, _, tree in self.each():
            for node in ast.walk(tree):
                if isinstance(node, ast.Name) and node.id in known:
                    self.assertIsInstance(node.ctx, ast.Load, node.id)
                    self.assertIn(node.id, BUILTINS)
                if isinstance(node, ast.arg):
                    self.assertNotIn(node.arg, known)
                if isinstance(node, (ast.FunctionDef, ast.ClassDef)) and not node.name.startswith("__"):
                    self.assertNotIn(node.name, known)

    def test_methods(self):
        own = set()
        for _, _, tree in self.each():
            for node in ast.walk(tree):
                if isinstance(node, ast.ClassDef):
                    own |= {one.name for one in node.body if isinstance(one, ast.FunctionDef)}
        for _, _, tree in self.each():
            for node in ast.walk(tree):
                if isinstance(node, ast.Call) and isinstance(node.func, ast.Attribute):
                    self.assertIn(node.func.attr, METHODS | own)

    def test_sets_are_not_iterated(self):
        for _, _, tree in self.each():
            for node in ast.walk(tree):
                if isinstance(node, (ast.For, ast.comprehension)):
                    self.assertNotIsInstance(node.iter, (ast.Set, ast.SetComp))

    def test_names_are_bound_once_in_a_module(self):
        for _, _, tree in self.each():
            names = []
            for node in tree.body:
                if isinstance(node, (ast.FunctionDef, ast.ClassDef)):
                    names.append(node.name)
                elif isinstance(node, ast.ImportFrom):
                    names.extend(name.name for name in node.names)
                elif isinstance(node, ast.Assign):
                    names.extend(target.id for target in node.targets)
                else:
                    self.assertIsInstance(node, ast.Expr)
            self.assertEqual(len(names), len(set(names)))
