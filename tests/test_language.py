"""The rules of the language that can be seen file by file, so that a slip is found ahead of a review."""

import ast
import builtins
import pathlib
import re
import unittest

import askedtrue

FOLDER = pathlib.Path(askedtrue.__file__).parent
FILES = sorted(path for path in FOLDER.rglob("*.py"))
BUILTINS = set((
    "len range enumerate zip min max sum abs sorted reversed int str bool bytes list tuple dict set frozenset isinstance ord "
    "repr any all divmod pow getattr hasattr setattr iter next type map super property staticmethod classmethod Exception "
    "ValueError TypeError KeyError IndexError LookupError ZeroDivisionError ArithmeticError OverflowError RuntimeError "
    "NotImplementedError AttributeError StopIteration NotImplemented").split())
METHODS = set((
    "append clear copy count endswith extend find get index insert isalnum isalpha isdigit islower isspace isupper items join "
    "keys ljust lower lstrip partition pop remove replace reverse rfind rjust rpartition rsplit rstrip setdefault split "
    "splitlines startswith strip update upper values zfill bit_length add discard appendleft popleft __init__").split())
DOUBLE = set("__init__ __eq__ __ne__ __repr__ __str__ __len__ __enter__ __exit__ __call__ __iter__ __bool__".split())
LIBRARY = {"heapq", "math", "collections"}


def trees():
    for path in FILES:
        yield path.name, ast.parse(path.read_text(encoding="utf-8"))


def nodes(kind):
    for name, tree in trees():
        for node in ast.walk(tree):
            if isinstance(node, kind):
                yield name, node


def own_names(tree, kind):
    return {node.name for node in ast.walk(tree) if isinstance(node, kind)}


class Language(unittest.TestCase):
    def fail_at(self, name, node, why):
        self.fail(f"{name}:{getattr(node, 'lineno', 0)}: {why}")

    def test_l1_and_l14_files(self):
        for path in FOLDER.rglob("*"):
            if "__pycache__" not in path.parts and path.is_file():
                self.assertRegex(path.name, r"^[a-z0-9_]+\.py$")

    def test_l2_and_l16_imports(self):
        for name, node in nodes((ast.Import, ast.ImportFrom)):
            if isinstance(node, ast.Import) or node.level or any(one.asname for one in node.names):
                self.fail_at(name, node, "import")
            if node.module in LIBRARY:
                continue
            self.assertRegex(node.module, r"^askedtrue\.[a-z0-9_]+$", name)
            tree = ast.parse((FOLDER / (node.module.split(".")[1] + ".py")).read_text(encoding="utf-8"))
            bound = [target.id for row in tree.body if isinstance(row, ast.Assign) for target in row.targets]
            bound += [row.name for row in tree.body if isinstance(row, (ast.FunctionDef, ast.ClassDef))]
            for one in node.names:
                self.assertIn(one.name, bound, name)

    def test_l16_no_circles(self):
        needs = {}
        for name, tree in trees():
            needs[name[:-3]] = {node.module.split(".")[-1] for node in ast.walk(tree) if isinstance(node, ast.ImportFrom)}
        while needs:
            free = [name for name in needs if not needs[name] & set(needs)]
            self.assertTrue(free, f"files import one another: {sorted(needs)}")
            for name in free:
                del needs[name]

    def test_l3_module_level(self):
        for name, tree in trees():
            for at, node in enumerate(tree.body):
                docstring = at == 0 and isinstance(node, ast.Expr) and isinstance(node.value, ast.Constant)
                plain = isinstance(node, ast.Assign) and len(node.targets) == 1 and isinstance(node.targets[0], ast.Name)
                if not docstring and not plain and not isinstance(node, (ast.ImportFrom, ast.FunctionDef, ast.ClassDef)):
                    self.fail_at(name, node, "module level")

    def test_l4_and_l5_functions_and_classes(self):
        for name, node in nodes((ast.FunctionDef, ast.ClassDef)):
            words = [ast.unparse(word) for word in node.decorator_list]
            if isinstance(node, ast.ClassDef) and words or set(words) - {"property", "staticmethod", "classmethod"}:
                self.fail_at(name, node, "decorator")
            if node.name.startswith("__") and node.name not in DOUBLE:
                self.fail_at(name, node, "double underscores")

    def test_l6_statements(self):
        for name, node in nodes((ast.Global, ast.AsyncFunctionDef, ast.AsyncFor, ast.AsyncWith, ast.Await)):
            self.fail_at(name, node, "statement")
        for name, node in nodes(ast.ExceptHandler):
            self.assertIsNotNone(node.type, f"{name}:{node.lineno}")

    def test_l7_generator_expressions(self):
        # The package has classes with __eq__, so any, all, sum and the like take a list.
        for name, node in nodes(ast.GeneratorExp):
            self.fail_at(name, node, "generator expression")

    def test_l7_numbers(self):
        for name, node in nodes(ast.Constant):
            if isinstance(node.value, (float, complex)):
                self.fail_at(name, node, "float")
        for name, node in nodes(ast.Div):
            self.fail_at(name, node, "/")

    def test_l8_builtins(self):
        for name, tree in trees():
            for node in ast.walk(tree):
                if isinstance(node, ast.Name) and hasattr(builtins, node.id) and node.id not in BUILTINS:
                    self.fail_at(name, node, node.id)

    def test_l10_sizes(self):
        for path in FILES:
            rows = path.read_text(encoding="utf-8").split("\n")
            self.assertLessEqual(len(rows), 399, path.name)
            for number, row in enumerate(rows, 1):
                self.assertLessEqual(len(row), 120, f"{path.name}:{number}")
        for name, node in nodes(ast.FunctionDef):
            if node.end_lineno - node.lineno >= 40:
                self.fail_at(name, node, "long function")

    def test_l12_and_l14_signs(self):
        for path in FILES:
            self.assertIsNone(re.search(r"[^ -~\n]", path.read_text(encoding="utf-8")), path.name)

    def test_l15_names(self):
        for name, tree in trees():
            taken = own_names(tree, ast.ClassDef)
            taken |= {one.name for node in ast.walk(tree) if isinstance(node, ast.ImportFrom) for one in node.names}
            for node in ast.walk(tree):
                bound = node.arg if isinstance(node, ast.arg) else None
                if isinstance(node, ast.Name) and isinstance(node.ctx, ast.Store):
                    bound = node.id
                if bound in taken or hasattr(builtins, bound or ""):
                    self.fail_at(name, node, bound)

    def test_l18_methods_and_attributes(self):
        for name, node in nodes(ast.ClassDef):
            methods = own_names(node, ast.FunctionDef)
            self.assertEqual(len(methods), len([row for row in node.body if isinstance(row, ast.FunctionDef)]), node.name)
            for inner in ast.walk(node):
                if isinstance(inner, ast.Attribute) and isinstance(inner.ctx, ast.Store) and inner.attr in methods:
                    self.fail_at(name, inner, inner.attr)

    def test_l19_handlers(self):
        own = {cls for _, tree in trees() for cls in own_names(tree, ast.ClassDef)} | {"KeyError", "ZeroDivisionError"}
        for name, node in nodes(ast.ExceptHandler):
            for word in re.findall(r"\w+", ast.unparse(node.type)):
                if word not in own:
                    self.fail_at(name, node, word)

    def test_l23_generators_are_iterated_at_once(self):
        generators = {node.name for _, node in nodes(ast.FunctionDef)
                      if any(isinstance(inner, (ast.Yield, ast.YieldFrom)) for inner in ast.walk(node))}
        for name, tree in trees():
            heads = [node.iter for node in ast.walk(tree) if isinstance(node, (ast.For, ast.comprehension))]
            for node in ast.walk(tree):
                if isinstance(node, ast.Call) and isinstance(node.func, ast.Name) and node.func.id in ("list", "tuple", "sorted"):
                    heads += node.args
            for node in ast.walk(tree):
                if isinstance(node, ast.Call) and getattr(node.func, "id", None) in generators and node not in heads:
                    self.fail_at(name, node, "generator")

    def test_l25_methods_of_builtin_values(self):
        own = {node.name for _, node in nodes(ast.FunctionDef)}
        for name, node in nodes(ast.Call):
            if isinstance(node.func, ast.Attribute) and node.func.attr not in METHODS | own:
                self.fail_at(name, node, node.func.attr)

    def test_l27_strings(self):
        for name, node in nodes(ast.Constant):
            if isinstance(node.value, str) and "%" in node.value:
                self.fail_at(name, node, "%")


if __name__ == "__main__":
    unittest.main()
