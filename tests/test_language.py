"""The rules of LANGUAGE.md that can be read off the syntax of each file of the package."""

import ast
import builtins
import pathlib
import re
import unittest

PACKAGE = pathlib.Path(__file__).resolve().parent.parent / "ringvoices"
FILES = sorted(path for path in PACKAGE.rglob("*") if path.is_file() and "__pycache__" not in path.parts)

BUILTINS = """len range enumerate zip min max sum abs sorted reversed int str bool bytes list tuple dict set isinstance
ord repr any all divmod pow map iter next super property staticmethod classmethod getattr hasattr setattr object
Exception ValueError TypeError KeyError IndexError LookupError ZeroDivisionError ArithmeticError OverflowError
RuntimeError NotImplementedError AttributeError StopIteration NotImplemented""".split()

# A shell, and doctest like one, puts a name _ among the builtins.
ALL_BUILTINS = [name for name in dir(builtins) if not name.startswith("_")]

LIBRARY = {
    "math": "gcd lcm isqrt comb perm factorial".split(),
    "heapq": "heappush heappop heapify heapreplace heappushpop".split(),
    "itertools": "product combinations permutations chain accumulate pairwise islice zip_longest".split(),
    "collections": "defaultdict deque".split(),
}

METHODS = """append clear copy count endswith extend find get index insert isalnum isalpha isdigit islower isspace
isupper items join keys ljust lower lstrip partition pop remove replace reverse rfind rjust rpartition rsplit rstrip
setdefault split splitlines startswith strip update upper values zfill bit_length sort format add discard title
capitalize swapcase casefold center expandtabs removeprefix removesuffix rindex isascii isdecimal isnumeric istitle
isidentifier isprintable translate __init__""".split()

BARRED_NAMES = """register mro elements open input law version_info with_traceback add_note attrgetter breakpoint
builtins compile copyright credits delattr dir eval exec exit gc globals help id importlib license locals methodcaller
os quit vars sys""".split()

BARRED_WORDS = """typing typing_extensions enum Enum IntEnum StrEnum Flag IntFlag Generic Protocol ABC ABCMeta
namedtuple NamedTuple TypedDict TYPE_CHECKING abstractmethod""".split()

BARRED_NODES = (ast.AsyncFunctionDef, ast.AsyncFor, ast.AsyncWith, ast.Await, ast.Div, ast.MatMult, ast.Global,
                ast.Import, ast.AnnAssign)

SPECIAL = """__init__ __eq__ __repr__ __str__ __len__ __enter__ __exit__ __call__ __iter__ __contains__ __getitem__
__setitem__ __bool__ __lt__ __le__ __gt__ __ge__ __ne__ __add__ __sub__ __mul__ __neg__""".split()


def tree_of(path):
    return ast.parse(path.read_text(encoding="ascii"), str(path))


def names_bound(tree):
    """The names that a tree gives a meaning, attributes aside."""
    found = []
    for node in ast.walk(tree):
        if isinstance(node, (ast.FunctionDef, ast.ClassDef)):
            found.append(node.name)
        elif isinstance(node, ast.arg):
            found.append(node.arg)
        elif isinstance(node, ast.Name) and isinstance(node.ctx, ast.Store):
            found.append(node.id)
        elif isinstance(node, ast.alias):
            found.append(node.asname or node.name)
        elif isinstance(node, ast.ExceptHandler) and node.name:
            found.append(node.name)
    return found


def imports_of(tree):
    return [(node.module, alias.name) for node in tree.body if isinstance(node, ast.ImportFrom)
            for alias in node.names]


def parents_of(tree):
    return {child: node for node in ast.walk(tree) for child in ast.iter_child_nodes(node)}


def own_methods():
    return {node.name for path in FILES for made in ast.walk(tree_of(path)) if isinstance(made, ast.ClassDef)
            for node in made.body if isinstance(node, ast.FunctionDef)}


def is_plain(node):
    """Whether a value at module level is a literal, or built of literals and names."""
    if isinstance(node, (ast.List, ast.Tuple)):
        return all(is_plain(item) for item in node.elts)
    if isinstance(node, ast.Dict):
        return all(is_plain(item) for item in [*node.keys, *node.values])
    if isinstance(node, ast.UnaryOp):
        return is_plain(node.operand)
    return isinstance(node, (ast.Constant, ast.Name))


class Language(unittest.TestCase):

    def each(self):
        return [(path, tree_of(path)) for path in FILES]

    def fail_at(self, path, node, rule):
        self.fail(f"{rule}: {path.name}:{node.lineno}")

    def test_files(self):
        self.assertIn(PACKAGE / "__init__.py", FILES)
        for path in FILES:
            self.assertRegex(path.name, "^([a-z][a-z0-9_]*|__init__)[.]py$", "L1, L14")
            self.assertNotIn(path.stem, ALL_BUILTINS, "L14")
            self.assertNotIn(path.stem, BARRED_WORDS, "L14")
            self.assertTrue(set(path.read_bytes()) <= {10, *range(32, 127)}, f"L14: {path.name}")

    def test_imports(self):
        told = {f"ringvoices.{path.stem}": tree for path, tree in self.each()}
        for path, tree in self.each():
            begun = False
            for node in ast.walk(tree):
                if isinstance(node, ast.ImportFrom):
                    self.assertEqual((node.level, node.col_offset), (0, 0), f"L2: {path.name}:{node.lineno}")
                    self.assertTrue(all(alias.asname is None for alias in node.names), f"L2: {path.name}")
            for node in tree.body:
                self.assertFalse(begun and isinstance(node, ast.ImportFrom), f"L2: {path.name}:{node.lineno}")
                begun = begun or isinstance(node, (ast.FunctionDef, ast.ClassDef, ast.Assign))
            for module, name in imports_of(tree):
                if module in LIBRARY:
                    self.assertIn(name, LIBRARY[module], f"L2: {path.name}")
                else:
                    made = [node.name for node in told[module].body if isinstance(node, (ast.FunctionDef, ast.ClassDef))]
                    made += [node.targets[0].id for node in told[module].body if isinstance(node, ast.Assign)]
                    self.assertIn(name, made, f"L16: {path.name}")
                    self.assertIn(name, {node.id for node in ast.walk(tree) if isinstance(node, ast.Name)}, path.name)

    def test_no_circles(self):
        ahead = {f"ringvoices.{path.stem}": [module for module, _ in imports_of(tree) if module not in LIBRARY]
                 for path, tree in self.each()}
        while ahead:
            free = [module for module, others in ahead.items() if not any(other in ahead for other in others)]
            self.assertTrue(free, f"L16: {sorted(ahead)}")
            ahead = {module: others for module, others in ahead.items() if module not in free}

    def test_module_level(self):
        for path, tree in self.each():
            bound = []
            for at, node in enumerate(tree.body):
                if isinstance(node, ast.Assign):
                    good = len(node.targets) == 1 and isinstance(node.targets[0], ast.Name) and is_plain(node.value)
                    bound += [node.targets[0].id] if good else []
                else:
                    good = isinstance(node, (ast.ImportFrom, ast.FunctionDef, ast.ClassDef))
                    bound += [node.name] if isinstance(node, (ast.FunctionDef, ast.ClassDef)) else []
                    good = good or at == 0 and isinstance(node, ast.Expr) and isinstance(node.value, ast.Constant)
                if not good:
                    self.fail_at(path, node, "L3")
            bound += [name for _, name in imports_of(tree)]
            self.assertEqual(len(bound), len(set(bound)), f"L15: {path.name}")

    def test_size(self):
        for path, tree in self.each():
            lines = path.read_text(encoding="ascii").split("\n")
            self.assertLessEqual(len(lines), 399, f"L10: {path.name}")
            self.assertLessEqual(max(len(line) for line in lines), 120, f"L10: {path.name}")
            for node in ast.walk(tree):
                if isinstance(node, ast.FunctionDef) and node.end_lineno - node.lineno >= 40:
                    self.fail_at(path, node, "L10")

    def test_statements(self):
        for path, tree in self.each():
            for node in ast.walk(tree):
                if isinstance(node, BARRED_NODES):
                    self.fail(f"L6, L7: {path.name}: {ast.dump(node)}")
                if isinstance(node, ast.Constant) and isinstance(node.value, (float, complex)):
                    self.fail_at(path, node, "L7")
                if isinstance(node, ast.ClassDef) and (node.decorator_list or node.keywords):
                    self.fail_at(path, node, "L5")
                if isinstance(node, ast.FunctionDef) and node.decorator_list:
                    self.fail_at(path, node, "L4")
                if isinstance(node, ast.ExceptHandler) and node.type is None:
                    self.fail_at(path, node, "L6")
                if isinstance(node, ast.BinOp) and isinstance(node.op, ast.Pow) and not isinstance(node.right, ast.Constant):
                    self.fail_at(path, node, "L27")

    def test_is(self):
        for path, tree in self.each():
            for node in ast.walk(tree):
                if isinstance(node, ast.Compare) and any(isinstance(op, (ast.Is, ast.IsNot)) for op in node.ops):
                    for side in node.comparators:
                        if not isinstance(side, ast.Constant) or side.value not in (None, True, False):
                            self.fail_at(path, node, "L20")

    def test_names(self):
        for path, tree in self.each():
            for name in names_bound(tree):
                self.assertRegex(name, "^(_?[A-Za-z][A-Za-z0-9_]*|_|__[a-z]+__)$", f"L12: {path.name}")
                self.assertNotIn(name, ALL_BUILTINS, f"L15: {path.name}")
                self.assertNotIn(name, BARRED_NAMES, f"L17: {path.name}")
                if name.startswith("__"):
                    self.assertIn(name, SPECIAL, f"L5: {path.name}")
            inner = [name for node in tree.body if isinstance(node, (ast.FunctionDef, ast.ClassDef))
                     for part in ast.iter_child_nodes(node) for name in names_bound(part)]
            imported = [name for _, name in imports_of(tree)]
            made = [node.name for node in tree.body if isinstance(node, ast.ClassDef)]
            self.assertFalse(set(inner) & set(imported + made), f"L15: {path.name}")

    def test_builtins(self):
        for path, tree in self.each():
            for node in ast.walk(tree):
                if isinstance(node, ast.Name) and node.id in ALL_BUILTINS and node.id not in BUILTINS:
                    self.fail_at(path, node, "L8")
                if isinstance(node, ast.Name) and isinstance(node.ctx, ast.Load) and node.id == "_":
                    self.fail_at(path, node, "L12")

    def test_methods(self):
        known = {*METHODS, *own_methods()}
        for path, tree in self.each():
            for node in ast.walk(tree):
                if isinstance(node, ast.Call) and isinstance(node.func, ast.Attribute) and node.func.attr not in known:
                    self.fail_at(path, node, "L25")
                if isinstance(node, ast.Attribute) and (node.attr.startswith("__") and node.attr != "__init__"):
                    self.fail_at(path, node, "L8")

    def test_words(self):
        for path, tree in self.each():
            words = {node.id for node in ast.walk(tree) if isinstance(node, ast.Name)}
            words |= {node.attr for node in ast.walk(tree) if isinstance(node, ast.Attribute)}
            texts = [node.value for node in ast.walk(tree)
                     if isinstance(node, ast.Constant) and isinstance(node.value, str)]
            words |= set(re.findall("[A-Za-z_]+", " ".join(texts)))
            self.assertFalse(words & set(BARRED_WORDS), f"L17: {path.name}")
            self.assertFalse(any("%" in text for text in texts), f"L27: {path.name}")

    def test_stars_and_generators(self):
        for path, tree in self.each():
            for node in ast.walk(tree):
                if isinstance(node, (ast.GeneratorExp, ast.Yield, ast.YieldFrom)):
                    self.fail_at(path, node, "L23: take a list")
                if isinstance(node, ast.Call) and any(isinstance(arg, ast.Starred) for arg in node.args):
                    if not isinstance(node.func, ast.Name) or node.func.id in LIBRARY["math"] + LIBRARY["itertools"]:
                        self.fail_at(path, node, "L7")

    def test_products(self):
        for path, tree in self.each():
            parents = parents_of(tree)
            for node in ast.walk(tree):
                if isinstance(node, ast.Call) and getattr(node.func, "id", "") in ("product", "combinations", "permutations"):
                    self.assertIsInstance(parents[node], (ast.For, ast.comprehension), f"L2: {path.name}:{node.lineno}")
                    for arg in node.args:
                        is_call = isinstance(arg, ast.Call) and getattr(arg.func, "id", "") in ("range", "len", "int", "list")
                        if not is_call and not isinstance(arg, (ast.Name, ast.Attribute, ast.Constant)):
                            self.fail_at(path, node, "L2")

    def test_starred_targets(self):
        for path, tree in self.each():
            for node in ast.walk(tree):
                if isinstance(node, ast.Assign) and any(isinstance(part, ast.Starred) for part in ast.walk(node.targets[0])):
                    self.assertNotIsInstance(node.value, ast.Call, f"L6: {path.name}:{node.lineno}")

    def test_methods_and_attributes(self):
        for path, tree in self.each():
            for made in ast.walk(tree):
                if isinstance(made, ast.ClassDef):
                    methods = {node.name for node in made.body if isinstance(node, ast.FunctionDef)}
                    attributes = {node.attr for node in ast.walk(made) if isinstance(node, ast.Attribute)
                                  and isinstance(node.ctx, ast.Store)}
                    self.assertFalse(methods & attributes, f"L18: {path.name}")
                    self.assertFalse(attributes & {"items", "keys", "values", "pop", "update", "append", "clear", "extend",
                                                   "insert", "remove", "reverse", "setdefault", "sort", "args", "format"},
                                     f"L26: {path.name}")

    def test_sets(self):
        for path, tree in self.each():
            parents = parents_of(tree)
            for node in ast.walk(tree):
                is_call = isinstance(node, ast.Call) and isinstance(node.func, ast.Name) and node.func.id == "set"
                if is_call or isinstance(node, (ast.Set, ast.SetComp)):
                    above = parents[node]
                    inside = isinstance(above, ast.Call) and getattr(above.func, "id", "") in ("sorted", "len")
                    good = inside and not above.keywords or isinstance(above, (ast.Compare, ast.BinOp))
                    stored = isinstance(above, ast.Assign) and isinstance(above.targets[0], ast.Name)
                    if not good and not stored:
                        self.fail_at(path, node, "L24")

    def test_views_are_iterated_at_once(self):
        for path, tree in self.each():
            parents = parents_of(tree)
            for node in ast.walk(tree):
                if isinstance(node, ast.Call) and getattr(node.func, "id", "") in ("zip", "enumerate", "reversed", "map"):
                    above = parents[node]
                    if not isinstance(above, (ast.For, ast.comprehension, ast.Call)):
                        self.fail_at(path, node, "L23")


if __name__ == "__main__":
    unittest.main()
