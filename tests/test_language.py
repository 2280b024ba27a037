"""What of the language's rules can be read off the files: L1, L2, L5, L8, L10, L14 and L15."""

import ast
import builtins
import os
import unittest

ROOT = os.path.dirname(os.path.dirname(os.path.abspath(__file__)))
PACKAGE = os.path.join(ROOT, "liarslate")
LIBRARY = {
    "heapq": {"heappush", "heappop", "heapify", "heapreplace", "heappushpop"},
    "math": {"gcd", "lcm", "isqrt", "comb", "perm", "factorial"},
    "itertools": {
        "product", "combinations", "permutations", "chain", "accumulate", "pairwise", "islice", "zip_longest",
    },
    "collections": {"defaultdict", "deque"},
}
METHODS = {
    "__init__", "__eq__", "__repr__", "__str__", "__len__", "__enter__", "__exit__", "__call__", "__contains__",
}
# What L8 lets be called, and map (L23), less what a later rule takes away again.
CALLED = set(
    "len range enumerate zip min max sum abs sorted reversed int str bool list tuple dict set isinstance ord repr any"
    " all divmod pow map iter next super Exception ValueError TypeError KeyError IndexError LookupError"
    " RuntimeError".split()
)
WHOLE = ("any", "all", "min", "max", "sum", "sorted")
# Doctests leave a builtin _ behind, which is none of Python's own.
BUILTINS = set(dir(builtins)) - {"_"}
REFUSED = (ast.AsyncFunctionDef, ast.AsyncFor, ast.AsyncWith, ast.Await, ast.Div, ast.Import)


def files():
    """(name, text) of each file of the package."""
    for name in sorted(os.listdir(PACKAGE)):
        if name != "__pycache__":
            with open(os.path.join(PACKAGE, name), encoding="ascii", newline="") as file:
                yield name, file.read()


def trees():
    """(name, tree) of each file of the package."""
    for name, text in files():
        yield name, ast.parse(text)


def functions(tree):
    return [node for node in ast.walk(tree) if isinstance(node, ast.FunctionDef)]


class Language(unittest.TestCase):
    def test_only_plain_files(self):
        names = [name for name, _ in files()]
        self.assertIn("__init__.py", names)
        for name in names:
            self.assertRegex(name, r"\A[a-z_]+\.py\Z")

    def test_sizes(self):
        for name, text in files():
            lines = text.splitlines()
            self.assertLessEqual(len(lines), 399, name)
            for line in lines:
                self.assertLessEqual(len(line), 120, name)
        for name, tree in trees():
            for node in functions(tree):
                self.assertLessEqual(node.end_lineno - node.lineno + 1, 40, (name, node.name))

    def test_signs(self):
        for name, text in files():
            self.assertTrue(all(sign == "\n" or " " <= sign <= "~" for sign in text), name)
            for node in ast.walk(ast.parse(text)):
                if isinstance(node, ast.Constant) and isinstance(node.value, str):
                    self.assertNotIn("%", node.value, name)

    def test_imports(self):
        for name, tree in trees():
            for node in ast.walk(tree):
                if isinstance(node, ast.ImportFrom):
                    self.assertIn(node, tree.body, name)
                    told = {alias.name for alias in node.names}
                    if node.module not in LIBRARY:
                        self.assertTrue(node.module.startswith("liarslate."), name)
                    else:
                        self.assertLessEqual(told, LIBRARY[node.module], name)

    def test_imports_go_one_way(self):
        wants = {}
        for name, tree in trees():
            told = [node.module for node in ast.walk(tree) if isinstance(node, ast.ImportFrom)]
            wants["liarslate." + name[:-3]] = {word for word in told if word.startswith("liarslate.")}
        while wants:
            free = [name for name in wants if not wants[name] & set(wants)]
            self.assertTrue(free, wants)
            for name in free:
                del wants[name]

    def test_no_builtin_is_given_another_meaning(self):
        for name, tree in trees():
            named = [node for node in ast.walk(tree) if isinstance(node, ast.Name)]
            told = [node.id for node in named if isinstance(node.ctx, ast.Store)]
            told += [node.arg for node in ast.walk(tree) if isinstance(node, ast.arg)]
            told += [node.name for node in tree.body if isinstance(node, (ast.FunctionDef, ast.ClassDef))]
            self.assertEqual([word for word in told if word in BUILTINS], [], name)

    def test_called_builtins(self):
        for name, tree in trees():
            for node in ast.walk(tree):
                if isinstance(node, ast.Call) and isinstance(node.func, ast.Name) and node.func.id in BUILTINS:
                    self.assertIn(node.func.id, CALLED, name)
                    if node.func.id in WHOLE:
                        self.assertFalse([one for one in node.args if isinstance(one, ast.GeneratorExp)], name)

    def test_double_underscore_methods(self):
        for name, tree in trees():
            for node in functions(tree):
                if node.name.startswith("__"):
                    self.assertIn(node.name, METHODS, name)

    def test_no_name_is_a_method_and_an_attribute(self):
        methods, properties, attributes = set(), set(), set()
        for _, tree in trees():
            for node in ast.walk(tree):
                if isinstance(node, ast.ClassDef):
                    for one in functions(node):
                        (properties if one.decorator_list else methods).add(one.name)
                if isinstance(node, ast.Attribute) and isinstance(node.ctx, ast.Store):
                    attributes.add(node.attr)
        self.assertEqual((methods & attributes, properties & attributes, methods & properties), (set(),) * 3)

    def test_what_is_imported_is_defined_in_that_file_and_used(self):
        defined = {}
        for name, tree in trees():
            told = [node.name for node in tree.body if isinstance(node, (ast.FunctionDef, ast.ClassDef))]
            told += [one.id for node in tree.body if isinstance(node, ast.Assign) for one in node.targets]
            self.assertEqual(len(set(told)), len(told), name)
            defined["liarslate." + name[:-3]] = told
        for name, tree in trees():
            for node in tree.body:
                if isinstance(node, ast.ImportFrom):
                    for alias in node.names:
                        self.assertIn(alias.name, defined.get(node.module, LIBRARY.get(node.module)), name)
                        used = [one.id for one in ast.walk(tree) if isinstance(one, ast.Name)]
                        self.assertIn(alias.name, used, name)

    def test_no_local_has_the_name_of_a_class_or_an_import(self):
        for name, tree in trees():
            taken = {alias.name for node in tree.body if isinstance(node, ast.ImportFrom) for alias in node.names}
            taken |= {node.name for node in tree.body if isinstance(node, ast.ClassDef)}
            for node in functions(tree):
                told = {one.arg for one in ast.walk(node) if isinstance(one, ast.arg)}
                inner = [one for one in ast.walk(node) if isinstance(one, ast.Name)]
                told |= {one.id for one in inner if isinstance(one.ctx, ast.Store)}
                self.assertEqual(told & taken, set(), (name, node.name))

    def test_blocks_end_by_plain_rows(self):
        """What L6 lets stand in an __exit__: assignments and tests for None."""
        plain = (ast.Assign, ast.If, ast.Name, ast.Attribute, ast.Compare, ast.BoolOp, ast.Constant, ast.expr_context,
                 ast.boolop, ast.cmpop)
        for name, tree in trees():
            for node in functions(tree):
                if node.name == "__exit__":
                    for row in node.body:
                        for one in ast.walk(row):
                            self.assertIsInstance(one, plain, (name, ast.unparse(row)))

    def test_no_refused_forms(self):
        for name, tree in trees():
            for node in ast.walk(tree):
                self.assertNotIsInstance(node, REFUSED, (name, getattr(node, "lineno", 0)))
                self.assertFalse(isinstance(node, ast.Constant) and isinstance(node.value, (float, complex)), name)
                if isinstance(node, ast.Compare) and isinstance(node.ops[0], (ast.Is, ast.IsNot)):
                    self.assertIn(ast.unparse(node.comparators[0]), ("None", "True", "False"), name)


if __name__ == "__main__":
    unittest.main()
