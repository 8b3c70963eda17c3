"""Rules of the language of the package that can be checked by looking at its files."""

import ast
import pathlib
import re
import tokenize
import unittest
import warnings

ROOT = pathlib.Path(__file__).resolve().parent.parent
PACKAGE = ROOT / "fewhands"

BUILTINS = set("""
    len range enumerate zip min max sum abs sorted reversed int str bool bytes list tuple dict set
    isinstance ord repr any all divmod iter next map super property staticmethod classmethod
    Exception ValueError TypeError KeyError IndexError LookupError ZeroDivisionError ArithmeticError
    OverflowError RuntimeError NotImplementedError AttributeError StopIteration NotImplemented
""".split())
ALL_BUILTINS = set(dir(__builtins__) if not isinstance(__builtins__, dict) else __builtins__)
LIBRARY = {
    "heapq": {"heappush", "heappop", "heapify", "heapreplace", "heappushpop"},
    "math": {"gcd", "lcm", "isqrt", "comb", "perm", "factorial"},
    "itertools": {"product", "combinations", "permutations"},
    "__future__": {"annotations"},
}
SPECIAL = set("""
    init eq repr str len enter exit call iter lt le gt ge ne add sub mul floordiv mod pow and or xor
    lshift rshift radd rsub rmul rfloordiv rmod rand ror rxor rlshift rrshift iadd isub imul ifloordiv
    imod ipow iand ior ixor ilshift irshift neg pos invert abs bool contains getitem setitem
""".split())
# The methods of builtin values that may be called (L25).
METHODS = set("""
    append clear copy count endswith extend find get index insert isalnum isalpha isdigit islower isspace isupper
    items join keys ljust lower lstrip partition pop remove replace reverse rfind rjust rpartition rsplit rstrip
    setdefault split splitlines startswith strip update upper values zfill bit_length
""".split())
# Names that are used nowhere (L17), or not as names of variables, functions, classes and the like.
NOWHERE = set("register mro elements open input law version_info with_traceback add_note format format_map".split())
NO_VARIABLES = NOWHERE | set("""
    attrgetter breakpoint builtins compile copyright credits delattr dir eval exec exit gc getattr globals hasattr
    help id importlib license locals methodcaller os quit setattr type vars sys
""".split())
CHANGING = set("append clear extend insert pop remove reverse setdefault update".split())


def files():
    return sorted(PACKAGE.rglob("*.py"))


def nodes(*kinds):
    """Each node of these kinds in the package, with the place where it stands."""
    for path in files():
        for node in ast.walk(ast.parse(path.read_text())):
            if isinstance(node, kinds):
                yield f"{path.name}:{getattr(node, 'lineno', 0)}", node


class TestLanguage(unittest.TestCase):
    def test_files(self):
        self.assertTrue((PACKAGE / "__init__.py").exists())
        for path in PACKAGE.rglob("*"):
            if "__pycache__" not in path.parts and path.is_file():
                self.assertEqual(path.suffix, ".py", path)
                self.assertEqual(path.name, path.name.lower())

    def test_characters_and_sizes(self):
        for path in files():
            text = path.read_bytes().decode("ascii")
            self.assertFalse([letter for letter in text if letter != "\n" and not " " <= letter <= "~"], path)
            self.assertLessEqual(len(text.splitlines()), 399, path)
            self.assertLessEqual(max([len(line) for line in text.splitlines()], default=0), 120, path)
        for place, node in nodes(ast.FunctionDef):
            first = min([node.lineno] + [row.lineno for row in node.decorator_list])
            self.assertLessEqual(node.end_lineno - first + 1, 40, place)

    def test_imports(self):
        for place, node in nodes(ast.Import, ast.ImportFrom):
            if isinstance(node, ast.Import):
                self.assertTrue(place.startswith("__main__.py"), place)
                self.assertEqual([row.name for row in node.names], ["sys"], place)
                continue
            names = {row.name for row in node.names}
            if node.module in LIBRARY:
                self.assertLessEqual(names, LIBRARY[node.module], place)
                continue
            self.assertTrue(node.module.startswith("fewhands.") and node.level == 0, place)
            source = PACKAGE.joinpath(*node.module.split(".")[1:]).with_suffix(".py")
            self.assertLessEqual(names, bound_at_top(source), place)

    def test_imports_run_one_way(self):
        uses = {path.stem: {node.module.split(".")[1] for node in ast.walk(ast.parse(path.read_text()))
                            if isinstance(node, ast.ImportFrom) and node.module.startswith("fewhands.")}
                for path in files()}
        while uses:
            free = [name for name in uses if not uses[name] & set(uses)]
            self.assertTrue(free, f"these import from each other: {sorted(uses)}")
            uses = {name: uses[name] for name in uses if name not in free}

    def test_builtins(self):
        for place, node in nodes(ast.Name):
            if node.id in ALL_BUILTINS:
                self.assertIn(node.id, BUILTINS, place)
                self.assertIsInstance(node.ctx, ast.Load, place)

    def test_statements_and_values(self):
        barred = [place for place, _ in nodes(ast.Global, ast.AsyncFunctionDef, ast.Await, ast.Div, ast.MatMult)]
        self.assertEqual(barred, [])
        for place, node in nodes(ast.Constant):
            self.assertNotIsInstance(node.value, (float, complex), place)
            self.assertNotIn("%", node.value if isinstance(node.value, str) else "", place)

    def test_powers(self):
        """An exponent is a literal from 0 to 64 (L27)."""
        for place, node in nodes(ast.BinOp, ast.AugAssign):
            if isinstance(node.op, ast.Pow):
                exponent = node.right if isinstance(node, ast.BinOp) else node.value
                self.assertIsInstance(exponent, ast.Constant, place)
                self.assertIn(exponent.value, range(65), place)

    def test_numbers_and_strings_as_they_are_written(self):
        """Few digits, few escapes, no endings that look like private names, and nothing that Python warns of (L27)."""
        for path in files():
            with warnings.catch_warnings():
                warnings.simplefilter("error")
                compile(path.read_text(), str(path), "exec")
            with path.open("rb") as file:
                for token in tokenize.tokenize(file.readline):
                    place = f"{path.name}:{token.start[0]}"
                    if token.type == tokenize.NUMBER:
                        self.assertLessEqual(len(token.string), 900, place)
                    if token.type == tokenize.STRING:
                        self.assertEqual(re.findall(r"\\[^nt'\"\\]", token.string.replace(r"\\", "")), [], place)
        for place, node in nodes(ast.Constant):
            if isinstance(node.value, str):
                self.assertFalse(node.value.endswith(("._", ".__")), place)
                self.assertFalse(node.value.startswith("__") and node.value.endswith("__"), place)

    def test_special_methods_return_what_they_should(self):
        """No __init__ returns anything, and the __len__ of a class returns a len (L28)."""
        for place, node in nodes(ast.FunctionDef):
            found = [row for row in ast.walk(node) if isinstance(row, ast.Return)]
            if node.name == "__init__":
                self.assertEqual(found, [], place)
            if node.name == "__len__":
                self.assertEqual([row.value.func.id for row in found], ["len"], place)

    def test_special_methods(self):
        for place, node in nodes(ast.FunctionDef):
            if node.name.startswith("__"):
                self.assertIn(node.name[2:-2], SPECIAL, place)

    def test_names_are_bound_once_at_the_top(self):
        for path in files():
            bound_at_top(path)

    def test_no_generator_expressions(self):
        """A class has its own equality: any, all and the like take lists (L7)."""
        self.assertEqual([place for place, _ in nodes(ast.GeneratorExp)], [])

    def test_methods(self):
        own = {node.name for _, node in nodes(ast.FunctionDef)}
        for place, node in nodes(ast.Call):
            if isinstance(node.func, ast.Attribute):
                self.assertIn(node.func.attr, METHODS | own, place)

    def test_barred_names(self):
        for place, node in nodes(ast.Attribute):
            self.assertNotIn(node.attr, NOWHERE, place)
        for place, node in nodes(ast.Name, ast.arg, ast.FunctionDef, ast.ClassDef):
            name = node.id if isinstance(node, ast.Name) else node.arg if isinstance(node, ast.arg) else node.name
            self.assertNotIn(name, NO_VARIABLES, place)

    def test_local_names(self):
        """No parameter and no local variable has the name of a class, an import or a builtin (L15)."""
        for path in files():
            tree = ast.parse(path.read_text())
            taken = {node.name for node in tree.body if isinstance(node, ast.ClassDef)}
            for node in tree.body:
                if isinstance(node, ast.ImportFrom):
                    taken |= {row.name for row in node.names}
            for function in ast.walk(tree):
                if isinstance(function, ast.FunctionDef):
                    found = {node.arg for node in ast.walk(function) if isinstance(node, ast.arg)}
                    found |= {node.id for node in ast.walk(function) if isinstance(node, ast.Name)
                              and isinstance(node.ctx, ast.Store)}
                    self.assertFalse(found & (taken | ALL_BUILTINS), f"{path.name}:{function.name}")

    def test_sets(self):
        """A set stands in sorted or len, or beside another one (L24)."""
        for path in files():
            tree = ast.parse(path.read_text())
            right = set()
            for node in ast.walk(tree):
                if isinstance(node, ast.Call) and isinstance(node.func, ast.Name) and node.func.id in ("sorted", "len"):
                    right |= {id(argument) for argument in node.args}
            for node in ast.walk(tree):
                is_call = isinstance(node, ast.Call) and isinstance(node.func, ast.Name)
                if isinstance(node, (ast.Set, ast.SetComp)) or is_call and node.func.id in ("set", "frozenset"):
                    self.assertIn(id(node), right, f"{path.name}:{node.lineno}")

    def test_handlers_name_own_errors(self):
        own = {node.name for _, node in nodes(ast.ClassDef)}
        for place, node in nodes(ast.ExceptHandler):
            named = node.type.elts if isinstance(node.type, ast.Tuple) else [node.type]
            self.assertLessEqual({name.id for name in named}, own | {"KeyError"}, place)

    def test_loops_do_not_change_what_they_go_over(self):
        for place, loop in nodes(ast.For):
            over = {node.id for node in ast.walk(loop.iter) if isinstance(node, ast.Name)} - {"self"}
            for node in [node for row in loop.body for node in ast.walk(row)]:
                if isinstance(node, ast.Call) and isinstance(node.func, ast.Attribute) and node.func.attr in CHANGING:
                    self.assertNotIn(getattr(node.func.value, "id", None), over, place)
                if isinstance(node, ast.Subscript) and not isinstance(node.ctx, ast.Load):
                    self.assertNotIn(getattr(node.value, "id", None), over, place)

    def test_keywords_of_builtins(self):
        allowed = {"sorted": {"key", "reverse"}, "min": {"key", "default"}, "max": {"key", "default"},
                   "sum": {"start"}, "enumerate": {"start"}, "zip": {"strict"}}
        for place, node in nodes(ast.Call):
            if isinstance(node.func, ast.Name) and node.func.id in BUILTINS:
                self.assertLessEqual({word.arg for word in node.keywords}, allowed.get(node.func.id, set()), place)

    def test_what_is_reversed(self):
        """A class has items: reversed takes what is plainly a list, a tuple or a range (L5)."""
        for place, node in nodes(ast.Call):
            if isinstance(node.func, ast.Name) and node.func.id == "reversed":
                (what,) = node.args
                if not isinstance(what, (ast.List, ast.Tuple)):
                    self.assertIsInstance(what, ast.Call, place)
                    self.assertIn(what.func.id, ("list", "tuple", "sorted", "range"), place)

    def test_methods_of_the_interface_stand_in_their_classes(self):
        classes = {node.name: {row.name for row in node.body if isinstance(row, ast.FunctionDef)}
                   for _, node in nodes(ast.ClassDef)}
        for name, methods in (
            ("Staff", "of kinds total numbers fits_in within __getitem__ __eq__ __add__ __sub__ __or__ __and__"),
            ("Task", "role many other same takes forgets __eq__"),
            ("Office", "book persons staff cases running start stand doers choose pick do join leave undo redo undoable redoable trial "
                       "attempt tried depth"),
            ("GuardedOffice", "helpful"), ("LoggedOffice", "log"), ("GuardedLoggedOffice", "helpful log"),
            ("Vote", ""), ("HandOn", ""), ("Reopen", ""), ("Desk", "run __call__"),
            ("Book", "kinds remembered width plan set_plan names __len__ __contains__ __getitem__ __setitem__ take copied "
                     "__eq__ __add__ __or__ __ior__ text read"),
        ):
            self.assertLessEqual(set(methods.split()) | {"__init__"}, classes[name])


    def test_properties_and_attributes(self):
        """The name of a property is no method's and no attribute's, and no attribute has the name of a method (L5, L18)."""
        properties, methods, attributes = set(), set(), set()
        for _, owner in nodes(ast.ClassDef):
            for row in owner.body:
                if isinstance(row, ast.FunctionDef):
                    marks = [mark.id if isinstance(mark, ast.Name) else mark.attr for mark in row.decorator_list]
                    (properties if set(marks) & {"property", "setter"} else methods).add(row.name)
        for _, node in nodes(ast.Attribute):
            if isinstance(node.ctx, ast.Store):
                attributes.add(node.attr)
        self.assertEqual(properties & methods, set())
        self.assertEqual((properties | methods) & attributes, set())
        self.assertEqual((properties | methods) & (METHODS - {"join"}), set())
        self.assertLessEqual(attributes & METHODS, {"index", "count", "find", "get", "join", "lower", "upper", "split", "strip", "copy"})

    def test_generators(self):
        """Their names are those of no other functions, and they are only gone through (L23)."""
        functions = [node for _, node in nodes(ast.FunctionDef)]
        makers = [node.name for node in functions if any(isinstance(row, (ast.Yield, ast.YieldFrom)) for row in ast.walk(node))]
        self.assertEqual(sorted(makers), ["_runs_through", "runs"])
        for name in makers:
            self.assertEqual([node.name for node in functions].count(name), 1)
        for place, node in nodes(ast.Name):
            self.assertNotIn(node.id, [name for name in makers if not place.startswith("bands.py")], place)

    def test_ends_of_blocks(self):
        """The end of a block assigns attributes and asks what is None (L6)."""
        for place, node in nodes(ast.FunctionDef):
            if node.name == "__exit__":
                for row in ast.walk(node):
                    self.assertNotIsInstance(row, (ast.BinOp, ast.AugAssign, ast.For, ast.While, ast.Raise, ast.Try, ast.With, ast.Subscript), place)
                    if isinstance(row, ast.Assign):
                        self.assertTrue(all(isinstance(target, ast.Attribute) for target in row.targets), place)
                    if isinstance(row, ast.Compare):
                        self.assertIsInstance(row.ops[0], (ast.Is, ast.IsNot), place)
                        self.assertIsNone(row.comparators[0].value, place)
                    if isinstance(row, ast.Call):
                        self.assertIn(row.func.attr, ("append", "clear"), place)
                    if isinstance(row, ast.Name):
                        self.assertNotIn(row.id, ("value", "trace"), place)


def bound_at_top(path):
    """The names that a module binds by itself, each only once."""
    bound, imported = [], []
    for node in ast.parse(path.read_text()).body:
        if isinstance(node, (ast.FunctionDef, ast.ClassDef)):
            bound.append(node.name)
        elif isinstance(node, ast.ImportFrom):
            imported.extend(row.asname or row.name for row in node.names)
        elif isinstance(node, ast.Assign):
            bound.extend(target.id for target in node.targets)
    every = bound + imported
    assert len(every) == len(set(every)), f"bound twice in {path}: {every}"
    return set(bound)
