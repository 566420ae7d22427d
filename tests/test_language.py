"""Whether the package keeps to the rules of the language that can be seen in one file at a time."""

import ast
import builtins
import pathlib
import re
import unittest

ROOT = pathlib.Path(__file__).resolve().parent.parent
PACKAGE = ROOT / "tablerings"
FILES = sorted(PACKAGE.rglob("*.py"))

LIBRARY = {"heapq": {"heappush", "heappop", "heapify", "heapreplace", "heappushpop"},
           "math": {"gcd", "lcm", "isqrt", "comb", "perm", "factorial"},
           "itertools": {"product", "combinations", "permutations", "chain", "accumulate", "pairwise", "islice", "zip_longest"},
           "collections": {"defaultdict"}}
BUILTINS = set("""len range enumerate zip min max sum abs sorted reversed int str bool bytes list tuple dict set frozenset
    isinstance ord repr any all divmod Exception ValueError TypeError KeyError IndexError LookupError ZeroDivisionError
    ArithmeticError OverflowError RuntimeError NotImplementedError NotImplemented map iter next
    property classmethod staticmethod""".split())
METHODS = set("""append clear copy count endswith extend find get index insert isalnum isalpha isdigit islower isspace isupper
    items join keys ljust lower lstrip partition pop remove replace reverse rfind rjust rpartition rsplit rstrip setdefault
    split splitlines startswith strip update upper values zfill bit_length""".split())
DUNDERS = set("__init__ __eq__ __repr__ __str__ __len__ __iter__ __contains__ __getitem__".split())
BARRED_WORDS = set("""type typing typing_extensions enum Enum IntEnum StrEnum Flag IntFlag Generic Protocol ABC ABCMeta
    namedtuple NamedTuple TypedDict TYPE_CHECKING abstractmethod""".split())
BARRED_NAMES = set("""register mro elements open input law version_info with_traceback add_note attrgetter breakpoint
    builtins compile copyright credits delattr dir eval exec exit gc globals help id importlib license locals methodcaller
    os quit super vars sys""".split())
NODES = (ast.Global, ast.AsyncFunctionDef, ast.AsyncFor, ast.AsyncWith, ast.Await, ast.GeneratorExp, ast.Div, ast.Import,
         ast.Set, ast.SetComp, ast.MatMult, ast.AnnAssign, ast.Yield, ast.YieldFrom, ast.Try, ast.With, ast.Starred)
AT_ONCE = {"zip", "enumerate", "reversed", "range", "map"}
TAKERS = {"list", "tuple", "dict", "sorted", "sum", "any", "all", "enumerate", "zip", "reversed"}


def parsed(path):
    """The tree of a file, in which each node knows the one above it."""
    tree = ast.parse(path.read_text())
    for node in ast.walk(tree):
        for child in ast.iter_child_nodes(node):
            child.above = node
    return tree


def module_name(path):
    """The full name of a file's module."""
    parts = list(path.relative_to(ROOT).with_suffix("").parts)
    return ".".join(parts[:-1] if parts[-1] == "__init__" else parts)


TREES = {path: parsed(path) for path in FILES}


def nodes(kind):
    """All nodes of a kind in all files, with their place."""
    for path, tree in TREES.items():
        for node in ast.walk(tree):
            if isinstance(node, kind):
                yield f"{path.name}:{getattr(node, 'lineno', 0)}", path, node


def bound_names(tree):
    """The names that a module binds."""
    names = []
    for node in tree.body:
        if isinstance(node, (ast.FunctionDef, ast.ClassDef)):
            names.append(node.name)
        elif isinstance(node, ast.Assign):
            names.extend(target.id for target in node.targets)
        elif isinstance(node, ast.ImportFrom):
            names.extend(name.name for name in node.names)
    return names


def own_names(tree):
    """The names that a module defines itself."""
    imported = {name.name for node in tree.body if isinstance(node, ast.ImportFrom) for name in node.names}
    return [name for name in bound_names(tree) if name not in imported]


def local_names(tree):
    """The names of parameters and local variables."""
    for node in ast.walk(tree):
        if isinstance(node, ast.arg):
            yield node.lineno, node.arg
        elif isinstance(node, ast.Name) and isinstance(node.ctx, ast.Store) and not isinstance(node.above.above, ast.Module):
            yield node.lineno, node.id
        elif isinstance(node, ast.FunctionDef) and isinstance(node.above, ast.FunctionDef):
            yield node.lineno, node.name


class LanguageTest(unittest.TestCase):
    def test_files(self):
        """L1, L14"""
        for path in PACKAGE.rglob("*"):
            if path.name != "__pycache__" and path.parent.name != "__pycache__":
                self.assertTrue(path.is_dir() or path.suffix == ".py", path)
                self.assertTrue(path.is_file() or (path / "__init__.py").exists(), path)
                self.assertRegex(path.stem, "^[a-z_][a-z0-9_]*$")
                self.assertNotIn(path.stem, dir(builtins))
        for path in FILES:
            self.assertIsNone(re.search(r"[^ -~\n]", path.read_text()), path)
            self.assertFalse((path.parent / path.stem).is_dir(), path)

    def test_sizes(self):
        """L10"""
        for path in FILES:
            rows = path.read_text().split("\n")
            self.assertLessEqual(len(rows), 399, path)
            self.assertLessEqual(max(map(len, rows)), 120, path)
        for place, _, node in nodes(ast.FunctionDef):
            self.assertLessEqual(node.end_lineno - node.lineno + 1, 40, place)

    def test_imports(self):
        """L2, L16"""
        for place, _, node in nodes(ast.ImportFrom):
            self.assertEqual(node.level, 0, place)
            self.assertTrue(all(name.asname is None and name.name != "*" for name in node.names), place)
            if node.module in LIBRARY:
                self.assertTrue({name.name for name in node.names} <= LIBRARY[node.module], place)
                continue
            source = ROOT / (node.module.replace(".", "/") + ".py")
            self.assertIn(source, TREES, place)
            for name in node.names:
                self.assertIn(name.name, own_names(TREES[source]), place)

    def test_no_files_import_from_each_other(self):
        """L16"""
        needs = {}
        for _, path, node in nodes(ast.ImportFrom):
            if node.module not in LIBRARY:
                needs.setdefault(module_name(path), set()).add(node.module)
        free = {module_name(path) for path in FILES} - set(needs)
        while any(name not in free and needs[name] <= free for name in needs):
            free |= {name for name in needs if needs[name] <= free}
        self.assertEqual(set(needs) - free, set())

    def test_imports_are_used_and_names_bound_once(self):
        """L15"""
        for path, tree in TREES.items():
            names = bound_names(tree)
            self.assertEqual(len(names), len(set(names)), path)
            used = {node.id for node in ast.walk(tree) if isinstance(node, ast.Name)}
            imported = set(names) - set(own_names(tree))
            self.assertEqual(imported - used, set(), path)

    def test_module_level(self):
        """L3"""
        for path, tree in TREES.items():
            for at, node in enumerate(tree.body):
                told = at == 0 and isinstance(node, ast.Expr) and isinstance(node.value, ast.Constant)
                plain = isinstance(node, ast.Assign) and len(node.targets) == 1 and isinstance(node.targets[0], ast.Name)
                if plain:
                    self.assertFalse(any(isinstance(low, ast.Call) for low in ast.walk(node.value)), path)
                self.assertTrue(told or plain or isinstance(node, (ast.ImportFrom, ast.FunctionDef, ast.ClassDef)), path)

    def test_nodes(self):
        """L4, L6, L7, L24"""
        for place, _, node in nodes(NODES):
            self.fail(f"{place} {node}")
        for place, _, node in nodes(ast.Constant):
            self.assertNotIsInstance(node.value, (float, complex, bytes), place)
        for place, _, node in nodes(ast.FunctionDef):
            self.assertIsNone(node.args.kwarg, place)
            if node.args.vararg is not None:
                self.assertTrue(isinstance(node.above, ast.ClassDef) and not node.name.startswith("__"), place)
                self.assertTrue(node.args.args and node.args.vararg.annotation is None, place)
            self.assertTrue(not node.decorator_list or isinstance(node.above, ast.ClassDef), place)
        for place, _, node in nodes(ast.Call):
            self.assertFalse(any(isinstance(one, ast.Starred) for one in node.args), place)

    def test_builtins(self):
        """L8, L15"""
        for path, tree in TREES.items():
            known = set(bound_names(tree)) | {name for _, name in local_names(tree)}
            for node in ast.walk(tree):
                if isinstance(node, ast.Name) and isinstance(node.ctx, ast.Load) and node.id not in known:
                    self.assertIn(node.id, BUILTINS, f"{path.name}:{node.lineno}")

    def test_names(self):
        """L12, L15, L17"""
        for path, tree in TREES.items():
            outer = {name.name for node in tree.body if isinstance(node, ast.ImportFrom) for name in node.names}
            outer |= {node.name for node in tree.body if isinstance(node, ast.ClassDef)}
            for line, name in local_names(tree):
                place = f"{path.name}:{line} {name}"
                self.assertNotIn(name, outer, place)
                self.assertNotIn(name, own_names(tree), place)
                self.check_name(name, place)
            for name in own_names(tree):
                self.check_name(name, f"{path.name} {name}")
        for place, _, node in nodes(ast.Name):
            self.assertFalse(node.id == "_" and isinstance(node.ctx, ast.Load), place)

    def check_name(self, name, place):
        self.assertRegex(name, "^(_|_?[A-Za-z][A-Za-z0-9_]*)$", place)
        self.assertFalse(hasattr(builtins, name), place)
        self.assertNotIn(name, BARRED_NAMES | BARRED_WORDS, place)
        self.assertFalse(name.startswith(("_wall", "_pe_", "_dcw_", "_enum_", "_cm_", "_lay_", "_law_", "_stub_")), place)

    def test_classes(self):
        """L5, L18, L26"""
        values = [str, int, list, tuple, dict, set, bytes]
        for place, _, node in nodes(ast.ClassDef):
            self.assertEqual(node.decorator_list, [], place)
            self.assertLessEqual(len(node.bases), 1, place)
            for low in node.body:
                if isinstance(low, ast.FunctionDef):
                    right = low.name in DUNDERS or not any(hasattr(value, low.name) for value in values)
                    self.assertTrue(right and not (low.name.startswith("__") and low.name not in DUNDERS), place)
        stored = {node.attr for _, _, node in nodes(ast.Attribute) if isinstance(node.ctx, ast.Store)}
        told = {low.name for _, _, node in nodes(ast.ClassDef) for low in node.body if isinstance(low, ast.FunctionDef)}
        self.assertEqual(stored & told, set())
        for place, _, node in nodes(ast.Attribute):
            self.assertIn(node.attr, stored | told | METHODS, place)

    def test_a_package_with_items(self):
        """L2, L5, L17: what is barred where a class has items and is iterated over."""
        told = {low.name: low for _, _, node in nodes(ast.ClassDef) for low in node.body if isinstance(low, ast.FunctionDef)}
        self.assertIn("__getitem__", told)
        self.assertEqual(ast.unparse(told["__iter__"].body[-1]), "return iter(self._kept)")
        self.assertEqual(ast.unparse(told["__len__"].body[-1]), "return len(self._kept)")
        for place, _, node in nodes(ast.Call):
            if isinstance(node.func, ast.Name) and node.func.id == "reversed":
                inner = node.args[0]
                self.assertTrue(isinstance(inner, ast.Call) and inner.func.id in ("list", "tuple", "sorted", "range"), place)
            if isinstance(node.func, ast.Name) and node.func.id in ("iter", "next"):
                self.assertEqual(node.above.above.name, "__iter__", place)
        for path in FILES:
            text = path.read_text()
            self.assertFalse(any(word in text for word in ("(type)", "Meta", "metaclass=", "itertools")), path)
        stored = {node.attr for _, _, node in nodes(ast.Attribute) if isinstance(node.ctx, ast.Store)}
        self.assertTrue({"keys", "values", "items"}.isdisjoint(stored | set(told)))

    def test_properties(self):
        """L5, L18: the name of a property is no name of a method, and no attribute."""
        properties, methods = set(), set()
        for _, _, node in nodes(ast.ClassDef):
            for low in node.body:
                if isinstance(low, ast.FunctionDef):
                    marked = [mark.id for mark in low.decorator_list]
                    (properties if marked == ["property"] else methods).add(low.name)
        self.assertEqual(properties & methods, set())
        stored = {node.attr for _, _, node in nodes(ast.Attribute) if isinstance(node.ctx, ast.Store)}
        self.assertEqual(properties & stored, set())

    def test_what_stands_at_module_level(self):
        """L15: no list or dict in another one, and none is changed."""
        for path, tree in TREES.items():
            plain = {}
            for node in tree.body:
                if isinstance(node, ast.Assign):
                    inside = [low for low in ast.walk(node.value) if low is not node.value]
                    self.assertFalse(any(isinstance(low, (ast.List, ast.Dict)) for low in inside), path)
                    if isinstance(node.value, (ast.List, ast.Dict)):
                        plain[node.targets[0].id] = node
            for node in ast.walk(tree):
                if isinstance(node, ast.Name) and isinstance(node.ctx, ast.Load) and node.id in plain:
                    above = node.above
                    read = isinstance(above, ast.Subscript) and above.value is node and isinstance(above.ctx, ast.Load)
                    asked = isinstance(above, ast.Compare) and isinstance(above.ops[0], (ast.In, ast.NotIn))
                    self.assertTrue(read or asked, f"{path.name}:{node.lineno}")

    def test_names_in_nested_comprehensions(self):
        """L7: a comprehension inside another one, or in a nested function, has names of its own."""
        kinds = (ast.ListComp, ast.DictComp)
        for place, _, node in nodes(kinds):
            names = self.names_of(node)
            above = node.above
            while not isinstance(above, (ast.FunctionDef, ast.Module)):
                if isinstance(above, kinds):
                    self.assertTrue(names.isdisjoint(self.names_of(above)), place)
                above = above.above

    def names_of(self, node):
        """The names of the variables of a comprehension."""
        return {low.id for part in node.generators for low in ast.walk(part.target) if isinstance(low, ast.Name)}

    def test_calls_of_methods(self):
        """L25"""
        told = {low.name for _, _, node in nodes(ast.ClassDef) for low in node.body if isinstance(low, ast.FunctionDef)}
        for place, _, node in nodes(ast.Call):
            if isinstance(node.func, ast.Attribute):
                self.assertIn(node.func.attr, told | METHODS, place)
                if node.func.attr not in told:
                    self.assertEqual(node.keywords, [], place)

    def test_is(self):
        """L20"""
        for place, _, node in nodes(ast.Compare):
            for sign, value in zip(node.ops, node.comparators):
                if isinstance(sign, (ast.Is, ast.IsNot)):
                    self.assertTrue(isinstance(value, ast.Constant) and value.value in (None, True, False), place)

    def test_iterated_at_once(self):
        """L23"""
        for place, _, node in nodes(ast.Call):
            if isinstance(node.func, ast.Name) and node.func.id in AT_ONCE:
                above = node.above
                looped = isinstance(above, (ast.For, ast.comprehension)) and above.iter is node
                taken = isinstance(above, ast.Call) and isinstance(above.func, ast.Name) and above.func.id in TAKERS
                kept = node.func.id == "range" and isinstance(above, ast.Assign)
                self.assertTrue(looped or taken or kept, place)

    def test_numbers_and_strings(self):
        """L27"""
        for place, _, node in nodes(ast.BinOp):
            if isinstance(node.op, ast.Pow):
                self.assertTrue(isinstance(node.right, ast.Constant) and 0 <= node.right.value <= 64, place)
        for place, _, node in nodes(ast.Constant):
            if isinstance(node.value, str):
                self.assertNotIn("%", node.value, place)
                self.assertNotRegex(node.value, r"^__.*__$", place)

    def test_words(self):
        """L12, L17"""
        for path in FILES:
            text = path.read_text()
            self.assertNotIn("_wall", text)
            self.assertNotIn("_WallAttr", text)
            words = {node.value for node in ast.walk(TREES[path]) if isinstance(node, ast.Constant) and isinstance(node.value, str)}
            docs = {ast.get_docstring(node, clean=False) for node in ast.walk(TREES[path])
                    if isinstance(node, (ast.Module, ast.FunctionDef, ast.ClassDef))}
            for word in words - docs:
                self.assertTrue(BARRED_WORDS.isdisjoint(re.findall("[A-Za-z_]+", word)), path)
            names = {node.id for node in ast.walk(TREES[path]) if isinstance(node, ast.Name)}
            self.assertTrue(BARRED_WORDS.isdisjoint(names), path)

    def test_raises(self):
        """L19"""
        for place, _, node in nodes(ast.Raise):
            self.assertTrue(isinstance(node.exc, ast.Call) and isinstance(node.exc.func, ast.Name), place)
            self.assertIsNone(node.cause, place)

    def test_each_file_class_and_function_tells_what_it_does(self):
        for path, tree in TREES.items():
            for node in ast.walk(tree):
                if isinstance(node, (ast.Module, ast.ClassDef, ast.FunctionDef)):
                    name = getattr(node, "name", path.name)
                    if not (name.startswith("__") and isinstance(node, ast.FunctionDef)):
                        self.assertTrue(ast.get_docstring(node), f"{path.name} {name}")


if __name__ == "__main__":
    unittest.main()
