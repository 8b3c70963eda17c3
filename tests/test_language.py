"""Rules of the language of the package that can be checked by looking at its files."""

import ast
import pathlib
import unittest

ROOT = pathlib.Path(__file__).resolve().parent.parent
PACKAGE = ROOT / "fewhands"

BUILTINS = set("""
    len range enumerate zip min max sum abs sorted reversed int str bool bytes list tuple dict set
    isinstance ord repr any all divmod iter next map super property staticmethod classmethod
    Exception ValueError TypeError KeyError IndexError LookupError ZeroDivisionError ArithmeticError
    OverflowError RuntimeError NotImplementedError AttributeError StopIteration NotImplemented
""".split())
ALL_BUILTINS = set(dir(__builtins__) if not isinstance(__builtins__, dict) else __builtins__)
LIBRARY = {
    "heapq": {"heappush", "heappop", "heapify", "heapreplace", "heappushpop"},
    "math": {"gcd", "lcm", "isqrt", "comb", "perm", "factorial"},
    "itertools": {"product", "combinations", "permutations"},
    "__future__": {"annotations"},
}
SPECIAL = set("""
    init eq repr str len enter exit call iter lt le gt ge ne add sub mul floordiv mod pow and or xor
    lshift rshift radd rsub rmul rfloordiv rmod rand ror rxor rlshift rrshift iadd isub imul ifloordiv
    imod ipow iand ior ixor ilshift irshift neg pos invert abs bool contains getitem setitem
""".split())


def files():
    return sorted(PACKAGE.rglob("*.py"))


def nodes(*kinds):
    """Each node of these kinds in the package, with the place where it stands."""
    for path in files():
        for node in ast.walk(ast.parse(path.read_text())):
            if isinstance(node, kinds):
                yield f"{path.name}:{getattr(node, 'lineno', 0)}", node


class TestLanguage(unittest.TestCase):
    def test_files(self):
        self.assertTrue((PACKAGE / "__init__.py").exists())
        for path in PACKAGE.rglob("*"):
            if "__pycache__" not in path.parts and path.is_file():
                self.assertEqual(path.suffix, ".py", path)
                self.assertEqual(path.name, path.name.lower())

    def test_characters_and_sizes(self):
        for path in files():
            text = path.read_bytes().decode("ascii")
            self.assertFalse([letter for letter in text if letter != "\n" and not " " <= letter <= "~"], path)
            self.assertLessEqual(len(text.splitlines()), 399, path)
            self.assertLessEqual(max([len(line) for line in text.splitlines()], default=0), 120, path)
        for place, node in nodes(ast.FunctionDef):
            first = min([node.lineno] + [row.lineno for row in node.decorator_list])
            self.assertLessEqual(node.end_lineno - first + 1, 40, place)

    def test_imports(self):
        for place, node in nodes(ast.Import, ast.ImportFrom):
            if isinstance(node, ast.Import):
                self.assertTrue(place.startswith("__main__.py"), place)
                self.assertEqual([row.name for row in node.names], ["sys"], place)
                continue
            names = {row.name for row in node.names}
            if node.module in LIBRARY:
                self.assertLessEqual(names, LIBRARY[node.module], place)
                continue
            self.assertTrue(node.module.startswith("fewhands.") and node.level == 0, place)
            source = PACKAGE.joinpath(*node.module.split(".")[1:]).with_suffix(".py")
            self.assertLessEqual(names, bound_at_top(source), place)

    def test_imports_run_one_way(self):
        uses = {path.stem: {node.module.split(".")[1] for node in ast.walk(ast.parse(path.read_text()))
                            if isinstance(node, ast.ImportFrom) and node.module.startswith("fewhands.")}
                for path in files()}
        while uses:
            free = [name for name in uses if not uses[name] & set(uses)]
            self.assertTrue(free, f"these import from each other: {sorted(uses)}")
            uses = {name: uses[name] for name in uses if name not in free}

    def test_builtins(self):
        for place, node in nodes(ast.Name):
            if node.id in ALL_BUILTINS:
                self.assertIn(node.id, BUILTINS, place)
                self.assertIsInstance(node.ctx, ast.Load, place)

    def test_statements_and_values(self):
        barred = [place for place, _ in nodes(ast.Global, ast.AsyncFunctionDef, ast.Await, ast.Div, ast.MatMult)]
        self.assertEqual(barred, [])
        for place, node in nodes(ast.Constant):
            self.assertNotIsInstance(node.value, (float, complex), place)
            self.assertNotIn("%", node.value if isinstance(node.value, str) else "", place)

    def test_special_methods(self):
        for place, node in nodes(ast.FunctionDef):
            if node.name.startswith("__"):
                self.assertIn(node.name[2:-2], SPECIAL, place)

    def test_names_are_bound_once_at_the_top(self):
        for path in files():
            bound_at_top(path)


def bound_at_top(path):
    """The names that a module binds by itself, each only once."""
    bound, imported = [], []
    for node in ast.parse(path.read_text()).body:
        if isinstance(node, (ast.FunctionDef, ast.ClassDef)):
            bound.append(node.name)
        elif isinstance(node, ast.ImportFrom):
            imported.extend(row.asname or row.name for row in node.names)
        elif isinstance(node, ast.Assign):
            bound.extend(target.id for target in node.targets)
    every = bound + imported
    assert len(every) == len(set(every)), f"bound twice in {path}: {every}"
    return set(bound)
