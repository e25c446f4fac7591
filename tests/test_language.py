"""The rules of the language that can be looked at one file at a time."""

import ast
import unittest
import warnings
from pathlib import Path

PACKAGE = Path(__file__).resolve().parent.parent / "forktold"

BARRED_NODES = (
    ast.Import, ast.Global, ast.AsyncFunctionDef, ast.AsyncFor, ast.AsyncWith, ast.Await, ast.Div,
)

LIBRARY = {
    "heapq": {"heappush", "heappop", "heapify", "heapreplace", "heappushpop"},
    "math": {"gcd", "lcm", "isqrt", "comb", "perm", "factorial"},
    "itertools": {"chain", "accumulate", "pairwise", "islice", "zip_longest"},
    "collections": {"defaultdict"},
}

BUILTINS = {
    "len", "range", "enumerate", "zip", "min", "max", "sum", "abs", "sorted", "reversed", "int", "str", "bool",
    "list", "tuple", "dict", "set", "isinstance", "ord", "repr", "any", "all", "divmod", "iter", "next", "map",
    "ValueError", "TypeError", "KeyError", "IndexError", "NotImplemented", "super", "property",
}


def files():
    return sorted(PACKAGE.rglob("*.py"))


def bound(tree):
    """All names that a file binds anywhere."""
    for node in ast.walk(tree):
        if isinstance(node, (ast.FunctionDef, ast.ClassDef)):
            yield node.name
        elif isinstance(node, ast.arg):
            yield node.arg
        elif isinstance(node, ast.Name) and isinstance(node.ctx, ast.Store):
            yield node.id
        elif isinstance(node, ast.ImportFrom):
            yield from (name.name for name in node.names)


class Language(unittest.TestCase):
    def each(self):
        for path in files():
            text = path.read_text(encoding="utf-8")
            with self.subTest(file=path.name):
                yield path, text, ast.parse(text)

    def test_folder_has_python_files_alone(self):
        names = [path.name for path in PACKAGE.iterdir() if path.name != "__pycache__"]
        self.assertIn("__init__.py", names)
        for name in names:
            self.assertTrue(name.endswith(".py") and name == name.lower(), name)

    def test_sizes_and_signs(self):
        for _, text, tree in self.each():
            rows = text.split("\n")
            self.assertLessEqual(len(rows) - 1, 399)
            self.assertLessEqual(max(map(len, rows)), 120)
            self.assertTrue(all(sign == "\n" or " " <= sign <= "~" for sign in text))
            for node in ast.walk(tree):
                if isinstance(node, ast.FunctionDef):
                    self.assertLessEqual(node.end_lineno - node.lineno + 1, 40, node.name)

    def test_no_warnings(self):
        for path, text, _ in self.each():
            with warnings.catch_warnings():
                warnings.simplefilter("error")
                compile(text, str(path), "exec")

    def test_imports(self):
        for path, _, tree in self.each():
            for node in ast.walk(tree):
                if isinstance(node, ast.ImportFrom):
                    self.assertEqual(node.level, 0)
                    names = {name.name for name in node.names}
                    self.assertTrue(all(name.asname is None for name in node.names))
                    if node.module in LIBRARY:
                        self.assertLessEqual(names, LIBRARY[node.module])
                    else:
                        self.check_defined(node.module, names)

    def check_defined(self, module, names):
        package, _, stem = module.partition(".")
        self.assertEqual(package, "forktold")
        source = ast.parse((PACKAGE / (stem + ".py")).read_text(encoding="utf-8"))
        defined = {node.name for node in source.body if isinstance(node, (ast.FunctionDef, ast.ClassDef))}
        defined |= {node.targets[0].id for node in source.body if isinstance(node, ast.Assign)}
        self.assertLessEqual(names, defined, module)

    def test_nodes(self):
        for _, _, tree in self.each():
            for node in ast.walk(tree):
                self.assertNotIsInstance(node, BARRED_NODES)
                if isinstance(node, ast.Constant):
                    self.assertNotIsInstance(node.value, (float, complex))
                    if isinstance(node.value, str):
                        self.assertNotIn("%", node.value)

    def test_module_level(self):
        kinds = (ast.ImportFrom, ast.FunctionDef, ast.ClassDef, ast.Assign)
        for _, _, tree in self.each():
            body = tree.body[1:] if ast.get_docstring(tree) is not None else tree.body
            self.assertTrue(all(isinstance(node, kinds) for node in body))

    def test_names(self):
        # Where an example was shown, Python keeps it under the name _.
        known = {*dir(__import__("builtins"))} - {"_"}
        for _, _, tree in self.each():
            used = {node.id for node in ast.walk(tree) if isinstance(node, ast.Name) and isinstance(node.ctx, ast.Load)}
            mine = set(bound(tree))
            methods = {
                node.name for row in ast.walk(tree) if isinstance(row, ast.ClassDef)
                for node in row.body if isinstance(node, ast.FunctionDef)
            }
            self.assertEqual((mine - methods) & known, set())
            self.assertLessEqual(used & known - mine, BUILTINS)

    def test_each_import_is_used_and_hidden_by_nothing(self):
        for _, _, tree in self.each():
            imported = [name.name for node in tree.body if isinstance(node, ast.ImportFrom) for name in node.names]
            names = list(bound(tree))
            used = {node.id for node in ast.walk(tree) if isinstance(node, ast.Name) and isinstance(node.ctx, ast.Load)}
            for name in imported:
                self.assertEqual(names.count(name), 1, name)
                self.assertIn(name, used)


if __name__ == "__main__":
    unittest.main()
