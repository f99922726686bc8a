"""The form of the package: what of ../shared/LANGUAGE.md can be seen in each file alone, and the imports."""

import ast
import builtins
import pathlib
import unittest

PACKAGE = pathlib.Path(__file__).resolve().parent.parent / "putbetween"

LIBRARY = {
    "heapq": {"heappush", "heappop", "heapify", "heapreplace", "heappushpop"},
    "math": {"gcd", "lcm", "isqrt", "comb", "perm", "factorial"},
    "itertools": {
        "product", "combinations", "permutations", "chain", "accumulate", "pairwise", "islice", "zip_longest",
    },
    "collections": {"defaultdict", "deque"},
    "__future__": {"annotations"},
}

BUILTINS = set(
    "len range enumerate zip min max sum abs sorted reversed int str bool bytes list tuple dict set frozenset"
    " isinstance ord repr any all divmod pow getattr hasattr setattr map iter next Exception ValueError TypeError"
    " KeyError IndexError LookupError ZeroDivisionError ArithmeticError OverflowError RuntimeError"
    " NotImplementedError AttributeError StopIteration NotImplemented".split()
)

OPERATORS = {"add", "sub", "mul", "floordiv", "mod", "pow", "and", "or", "xor", "lshift", "rshift"}
METHODS = {"init", "eq", "repr", "str", "len", "enter", "exit", "call", "iter", "lt", "le", "gt", "ge", "ne"}
METHODS |= {"neg", "pos", "invert", "abs", "bool", "contains", "getitem", "setitem"}
METHODS |= OPERATORS | {"i" + name for name in OPERATORS} | {"r" + name for name in OPERATORS - {"pow"}}

UNUSED = {"register", "mro", "elements", "open", "input", "law", "version_info", "with_traceback", "add_note"}
UNUSED |= {"breakpoint", "compile", "copyright", "credits", "delattr", "dir", "eval", "exec", "exit", "globals"}
UNUSED |= {"help", "id", "license", "locals", "os", "quit", "vars", "sys", "gc", "builtins", "importlib"}

NODES = (
    ast.AsyncFunctionDef, ast.AsyncFor, ast.AsyncWith, ast.Await, ast.Div, ast.MatMult, ast.TryStar,
    ast.MatchMapping, ast.Import,
)


def files():
    return sorted(PACKAGE.glob("**/*.py"))


def trees():
    return [(path, ast.parse(path.read_text(encoding="ascii"))) for path in files()]


def bound_names(tree):
    """All pairs of a name that a file binds anywhere, and the node."""
    pairs = []
    for node in ast.walk(tree):
        if isinstance(node, (ast.FunctionDef, ast.ClassDef)):
            pairs.append((node.name, node))
        elif isinstance(node, ast.arg):
            pairs.append((node.arg, node))
        elif isinstance(node, ast.Name) and not isinstance(node.ctx, ast.Load):
            pairs.append((node.id, node))
        elif isinstance(node, ast.alias):
            pairs.append((node.asname or node.name, node))
        elif isinstance(node, ast.ExceptHandler) and node.name:
            pairs.append((node.name, node))
    return pairs


def top_names(tree):
    """The names that are bound at module level, those of imports included, as often as they are."""
    names = []
    for node in tree.body:
        if isinstance(node, (ast.FunctionDef, ast.ClassDef)):
            names.append(node.name)
        elif isinstance(node, ast.ImportFrom):
            names.extend(alias.asname or alias.name for alias in node.names)
        elif isinstance(node, ast.Assign):
            names.extend(target.id for target in node.targets)
    return names


def own_imports(tree):
    return [node for node in tree.body if isinstance(node, ast.ImportFrom) and node.module.startswith("putbetween")]


class Files(unittest.TestCase):
    def test_plain_python_files_and_nothing_else(self):
        for path in PACKAGE.glob("**/*"):
            if "__pycache__" not in path.parts:
                self.assertTrue(path.is_dir() or path.suffix == ".py", path)
                self.assertRegex(path.stem, r"^[a-z][a-z0-9_]*$|^__init__$|^__main__$")
                self.assertNotIn(path.stem, dir(builtins))
        self.assertLessEqual(len(files()), 100)
        self.assertTrue((PACKAGE / "__init__.py").exists())

    def test_characters_and_lengths(self):
        for path in files():
            text = path.read_bytes().decode("ascii")
            self.assertTrue(all(sign == "\n" or " " <= sign <= "~" for sign in text), path)
            self.assertLessEqual(len(text.splitlines()), 399, path)
            for line in text.splitlines():
                self.assertLessEqual(len(line), 120, (path, line))

    def test_functions_have_at_most_40_lines(self):
        for path, tree in trees():
            for node in ast.walk(tree):
                if isinstance(node, ast.FunctionDef):
                    self.assertLessEqual(node.end_lineno - node.lineno + 1, 40, (path, node.name))


class Imports(unittest.TestCase):
    def test_only_from_the_package_and_what_is_allowed(self):
        for path, tree in trees():
            for node in ast.walk(tree):
                if isinstance(node, ast.ImportFrom):
                    self.assertIn(node, tree.body, path)
                    self.assertEqual(node.level, 0, path)
                    for alias in node.names:
                        self.assertNotEqual(alias.name, "*", path)
                        if not node.module.startswith("putbetween."):
                            self.assertIn(alias.name, LIBRARY.get(node.module, ()), path)
                            self.assertIsNone(alias.asname, path)

    def test_from_the_very_file_that_defines_the_name(self):
        for path, tree in trees():
            for node in own_imports(tree):
                other = PACKAGE.parent / (node.module.replace(".", "/") + ".py")
                defining = ast.parse(other.read_text(encoding="ascii"))
                borrowed = [alias.name for old in defining.body if isinstance(old, ast.ImportFrom) for alias in old.names]
                for alias in node.names:
                    self.assertIn(alias.name, top_names(defining), path)
                    self.assertNotIn(alias.name, borrowed, path)

    def test_no_two_files_from_each_other(self):
        needs = {f"putbetween.{path.stem}": {node.module for node in own_imports(tree)} for path, tree in trees()}
        while needs:
            free = [name for name, others in needs.items() if not others & set(needs)]
            self.assertTrue(free, needs)
            for name in free:
                del needs[name]

    def test_each_import_is_used(self):
        for path, tree in trees():
            used = {node.id for node in ast.walk(tree) if isinstance(node, ast.Name)}
            for node in own_imports(tree):
                for alias in node.names:
                    self.assertIn(alias.asname or alias.name, used, path)


class Names(unittest.TestCase):
    def test_builtins_are_allowed_ones(self):
        known = set(dir(builtins))
        for path, tree in trees():
            for node in ast.walk(tree):
                if isinstance(node, ast.Name) and isinstance(node.ctx, ast.Load) and node.id in known:
                    self.assertIn(node.id, BUILTINS | {"type"}, (path, node.lineno))

    def test_no_name_is_bound_that_means_something_else(self):
        for path, tree in trees():
            methods = [f for c in ast.walk(tree) if isinstance(c, ast.ClassDef) for f in c.body]
            taken = set()
            for node in tree.body:
                if isinstance(node, ast.ClassDef):
                    taken.add(node.name)
                if isinstance(node, ast.ImportFrom):
                    taken.update(alias.asname or alias.name for alias in node.names)
            for name, node in bound_names(tree):
                self.assertNotIn(name, UNUSED, path)
                self.assertRegex(name, r"^_?[A-Za-z][A-Za-z0-9_]*$|^_$|^__[a-z]+__$", path)
                if node not in methods:
                    self.assertNotIn(name, dir(builtins), path)
                if not isinstance(node, (ast.alias, ast.ClassDef)) and node not in methods:
                    self.assertNotIn(name, taken, (path, node.lineno))

    def test_names_are_bound_once_at_module_level(self):
        for path, tree in trees():
            names = top_names(tree)
            self.assertEqual(len(names), len(set(names)), path)


class Code(unittest.TestCase):
    def test_module_level(self):
        allowed = (ast.ImportFrom, ast.FunctionDef, ast.ClassDef, ast.Assign)
        for path, tree in trees():
            for at, node in enumerate(tree.body):
                docstring = at == 0 and isinstance(node, ast.Expr) and isinstance(node.value, ast.Constant)
                self.assertTrue(docstring or isinstance(node, allowed), (path, node.lineno))
                if isinstance(node, ast.Assign):
                    self.assertEqual(len(node.targets), 1, path)
                    self.assertIsInstance(node.targets[0], ast.Name, path)
                    calls = [inner for inner in ast.walk(node.value) if isinstance(inner, ast.Call)]
                    self.assertEqual(calls, [], path)

    def test_no_statement_or_value_of_other_kinds(self):
        for path, tree in trees():
            for node in ast.walk(tree):
                self.assertNotIsInstance(node, NODES, (path, getattr(node, "lineno", 0)))
                if isinstance(node, ast.Constant):
                    self.assertNotIsInstance(node.value, (float, complex), (path, node.lineno))
                if isinstance(node, ast.ExceptHandler):
                    self.assertIsNotNone(node.type, (path, node.lineno))
                if isinstance(node, ast.Constant) and isinstance(node.value, str):
                    self.assertNotIn("__", node.value, (path, node.lineno))

    def test_powers_have_literal_exponents(self):
        for path, tree in trees():
            for node in ast.walk(tree):
                if isinstance(node, ast.BinOp) and isinstance(node.op, ast.Pow):
                    self.assertIsInstance(node.right, ast.Constant, (path, node.lineno))

    def test_classes(self):
        for path, tree in trees():
            for node in ast.walk(tree):
                if isinstance(node, ast.ClassDef):
                    self.assertIn(node, tree.body, path)
                    self.assertEqual(node.decorator_list, [], path)
                    names = [inner.name for inner in node.body if isinstance(inner, ast.FunctionDef)]
                    self.assertEqual(len(names), len(set(names)), path)
                    for name in names:
                        if name.startswith("__"):
                            self.assertIn(name.strip("_"), METHODS, path)


if __name__ == "__main__":
    unittest.main()
