"""The rules of the language that can be looked at one file at a time."""

import ast
import unittest
import warnings
from pathlib import Path

PACKAGE = Path(__file__).resolve().parent.parent / "forktold"

BARRED_NODES = (
    ast.Import, ast.Global, ast.AsyncFunctionDef, ast.AsyncFor, ast.AsyncWith, ast.Await, ast.Div,
)

LIBRARY = {
    "heapq": {"heappush", "heappop", "heapify", "heapreplace", "heappushpop"},
    "math": {"gcd", "lcm", "isqrt", "comb", "perm", "factorial"},
    "itertools": {"chain", "accumulate", "pairwise", "islice", "zip_longest"},
    "collections": {"defaultdict"},
}

BUILTINS = {
    "len", "range", "enumerate", "zip", "min", "max", "sum", "abs", "sorted", "reversed", "int", "str", "bool",
    "list", "tuple", "dict", "set", "isinstance", "ord", "repr", "any", "all", "divmod", "iter", "next", "map",
    "ValueError", "TypeError", "KeyError", "IndexError", "NotImplemented", "super", "property",
}

MODIFYING = {"append", "clear", "extend", "insert", "pop", "remove", "reverse", "setdefault", "sort", "update"}
OVER = {"enumerate", "reversed", "zip"}
VIEWS = {"items", "keys", "values"}


def files():
    return sorted(PACKAGE.rglob("*.py"))


def bound(tree):
    """All names that a file binds anywhere."""
    for node in ast.walk(tree):
        if isinstance(node, (ast.FunctionDef, ast.ClassDef)):
            yield node.name
        elif isinstance(node, ast.arg):
            yield node.arg
        elif isinstance(node, ast.Name) and isinstance(node.ctx, ast.Store):
            yield node.id
        elif isinstance(node, ast.ImportFrom):
            yield from (name.name for name in node.names)


def meant(node):
    """What an expression may stand for without a copy: names, and fields by their names alone."""
    if isinstance(node, ast.Name):
        return {node.id}
    if isinstance(node, ast.Attribute):
        return {"." + node.attr}
    if isinstance(node, ast.Subscript) and not isinstance(node.slice, ast.Slice):
        return {ast.unparse(node)}
    if isinstance(node, ast.IfExp):
        return meant(node.body) | meant(node.orelse)
    if isinstance(node, ast.BoolOp):
        return set().union(*map(meant, node.values))
    return set()


def walked(node):
    """What a loop over an expression walks."""
    if isinstance(node, ast.Call):
        if isinstance(node.func, ast.Name) and node.func.id in OVER:
            return set().union(*map(walked, node.args))
        if isinstance(node.func, ast.Attribute) and node.func.attr in VIEWS:
            return meant(node.func.value)
    return meant(node)


def modified(body):
    """What is modified somewhere in some nodes."""
    found = set()
    for node in [inner for outer in body for inner in ast.walk(outer)]:
        if isinstance(node, ast.Call) and isinstance(node.func, ast.Attribute) and node.func.attr in MODIFYING:
            found |= meant(node.func.value)
        elif isinstance(node, ast.AugAssign):
            found |= meant(node.target)
        elif isinstance(node, ast.Subscript) and not isinstance(node.ctx, ast.Load):
            found |= meant(node.value)
    return found


def same_things(function):
    """The lots of names and fields of a function of which one may stand for what another one does."""
    lots = []
    for node in ast.walk(function):
        if isinstance(node, ast.Assign):
            for target in node.targets:
                both = meant(target) | meant(node.value)
                lots = [lot for lot in lots if not lot & both] + [both.union(*[lot for lot in lots if lot & both])]
    return lots


def loops_that_modify(tree):
    """The rows of all loops in which what they walk is modified, by whatever name of the same function."""
    rows = set()
    for function in [node for node in ast.walk(tree) if isinstance(node, ast.FunctionDef)]:
        lots = same_things(function)
        for loop in ast.walk(function):
            if isinstance(loop, ast.For):
                names, body = walked(loop.iter), loop.body
            elif isinstance(loop, (ast.ListComp, ast.SetComp, ast.DictComp, ast.GeneratorExp)):
                names, body = set().union(*[walked(part.iter) for part in loop.generators]), [loop]
            else:
                continue
            names = names.union(*[lot for lot in lots if lot & names])
            if names & modified(body):
                rows.add(loop.lineno)
    return sorted(rows)


class Language(unittest.TestCase):
    def each(self):
        for path in files():
            text = path.read_text(encoding="utf-8")
            with self.subTest(file=path.name):
                yield path, text, ast.parse(text)

    def test_folder_has_python_files_alone(self):
        names = [path.name for path in PACKAGE.iterdir() if path.name != "__pycache__"]
        self.assertIn("__init__.py", names)
        for name in names:
            self.assertTrue(name.endswith(".py") and name == name.lower(), name)

    def test_sizes_and_signs(self):
        for _, text, tree in self.each():
            rows = text.split("\n")
            self.assertLessEqual(len(rows) - 1, 399)
            self.assertLessEqual(max(map(len, rows)), 120)
            self.assertTrue(all(sign == "\n" or " " <= sign <= "~" for sign in text))
            for node in ast.walk(tree):
                if isinstance(node, ast.FunctionDef):
                    self.assertLessEqual(node.end_lineno - node.lineno + 1, 40, node.name)

    def test_no_warnings(self):
        for path, text, _ in self.each():
            with warnings.catch_warnings():
                warnings.simplefilter("error")
                compile(text, str(path), "exec")

    def test_imports(self):
        for path, _, tree in self.each():
            for node in ast.walk(tree):
                if isinstance(node, ast.ImportFrom):
                    self.assertEqual(node.level, 0)
                    names = {name.name for name in node.names}
                    self.assertTrue(all(name.asname is None for name in node.names))
                    if node.module in LIBRARY:
                        self.assertLessEqual(names, LIBRARY[node.module])
                    else:
                        self.check_defined(node.module, names)

    def check_defined(self, module, names):
        package, _, stem = module.partition(".")
        self.assertEqual(package, "forktold")
        source = ast.parse((PACKAGE / (stem + ".py")).read_text(encoding="utf-8"))
        defined = {node.name for node in source.body if isinstance(node, (ast.FunctionDef, ast.ClassDef))}
        defined |= {node.targets[0].id for node in source.body if isinstance(node, ast.Assign)}
        self.assertLessEqual(names, defined, module)

    def test_nodes(self):
        for _, _, tree in self.each():
            for node in ast.walk(tree):
                self.assertNotIsInstance(node, BARRED_NODES)
                if isinstance(node, ast.Constant):
                    self.assertNotIsInstance(node.value, (float, complex))
                    if isinstance(node.value, str):
                        self.assertNotIn("%", node.value)

    def test_module_level(self):
        kinds = (ast.ImportFrom, ast.FunctionDef, ast.ClassDef, ast.Assign)
        for _, _, tree in self.each():
            body = tree.body[1:] if ast.get_docstring(tree) is not None else tree.body
            self.assertTrue(all(isinstance(node, kinds) for node in body))

    def test_names(self):
        # Where an example was shown, Python keeps it under the name _.
        known = {*dir(__import__("builtins"))} - {"_"}
        for _, _, tree in self.each():
            used = {node.id for node in ast.walk(tree) if isinstance(node, ast.Name) and isinstance(node.ctx, ast.Load)}
            mine = set(bound(tree))
            methods = {
                node.name for row in ast.walk(tree) if isinstance(row, ast.ClassDef)
                for node in row.body if isinstance(node, ast.FunctionDef)
            }
            self.assertEqual((mine - methods) & known, set())
            self.assertLessEqual(used & known - mine, BUILTINS)

    def test_what_a_loop_walks_is_not_modified_in_it(self):
        found = {path.name: loops_that_modify(tree) for path, _, tree in self.each()}
        self.assertEqual([(name, rows) for name, rows in found.items() if rows], [])

    def test_loops_that_modify_are_seen(self):
        rows = ("def go(self, a, b, c):", "    while b:", "        c = []", "        for x in {}:", "            {}")
        for over, then, many in (
            ("a", "a.append(x)", 1), ("a", "c.append(x)", 0), ("b", "c.append(x)", 1), ("list(b)", "c.append(x)", 0),
            ("enumerate(b)", "c[0] = x", 1), ("zip(a, b)", "del c[0]", 1), ("b or a", "c += [x]", 1),
            ("a if x else b", "c.pop()", 1), ("b[1:]", "c.pop()", 0), ("a.items()", "a[x] = 1", 1),
            ("self.a", "self.a.clear()", 1), ("self.a", "self.b.clear()", 0), ("a[0]", "a[0].append(x)", 1),
            ("a", "y = [c.pop() for z in b]", 1), ("a", "y = [c.pop() for z in list(b)]", 0),
        ):
            text = "\n".join([*rows, "        b = c"]).format(over, then)
            with self.subTest(over=over, then=then):
                self.assertEqual(len(loops_that_modify(ast.parse(text))), many)

    def test_each_import_is_used_and_hidden_by_nothing(self):
        for _, _, tree in self.each():
            imported = [name.name for node in tree.body if isinstance(node, ast.ImportFrom) for name in node.names]
            names = list(bound(tree))
            used = {node.id for node in ast.walk(tree) if isinstance(node, ast.Name) and isinstance(node.ctx, ast.Load)}
            for name in imported:
                self.assertEqual(names.count(name), 1, name)
                self.assertIn(name, used)


if __name__ == "__main__":
    unittest.main()
