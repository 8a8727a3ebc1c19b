"""The rules of the language that a reading of the files can check, for every file of the package."""

import ast
import builtins
import pathlib
import re
import unittest
import warnings

FOLDER = pathlib.Path(__file__).resolve().parent.parent / "relatedrights"
FILES = sorted(FOLDER.rglob("*.py"))
TREES = {path: ast.parse(path.read_text(encoding="utf-8")) for path in FILES}

LIBRARY = {
    "heapq": {"heappush", "heappop", "heapify", "heapreplace", "heappushpop"},
    "math": {"gcd", "lcm", "isqrt", "comb", "perm", "factorial"},
    "itertools": {
        "product", "combinations", "permutations", "chain", "accumulate", "pairwise", "islice", "zip_longest"},
    "collections": {"defaultdict", "deque"},
}
BUILTINS = set("""len range enumerate zip min max sum abs sorted reversed int str bool bytes list tuple dict set
    frozenset isinstance ord repr any all divmod pow map iter next getattr hasattr setattr super Exception ValueError
    TypeError KeyError IndexError LookupError ZeroDivisionError ArithmeticError OverflowError RuntimeError
    NotImplementedError AttributeError StopIteration NotImplemented""".split())
METHODS = set("""append clear copy count endswith extend find get index insert isalnum isalpha isdigit islower isspace
    isupper items join keys ljust lower lstrip partition pop remove replace reverse rfind rjust rpartition rsplit rstrip
    setdefault split splitlines startswith strip update upper values zfill bit_length isascii removeprefix
    removesuffix""".split())
BARRED_ATTRIBUTES = set("""items keys values pop update append clear extend insert remove reverse setdefault sort args
    encode decode hex fromhex format format_map mro register elements open input law""".split())
BARRED_NAMES = set("""register mro elements open input law version_info with_traceback add_note attrgetter breakpoint
    builtins compile copyright credits delattr dir eval exec exit gc globals help id importlib license locals
    methodcaller os quit type vars sys""".split())
BARRED_WORDS = set("""type typing typing_extensions enum Enum IntEnum StrEnum Flag IntFlag Generic Protocol ABC ABCMeta
    namedtuple NamedTuple TypedDict TYPE_CHECKING abstractmethod""".split())
BARRED_NODES = (
    ast.AsyncFunctionDef, ast.AsyncFor, ast.AsyncWith, ast.Await, ast.Yield, ast.YieldFrom, ast.GeneratorExp,
    ast.Div, ast.AnnAssign,
)
PRODUCTS = ("product", "combinations", "permutations")
AT_ONCE = ("zip", "enumerate", "reversed", "range", "map") + PRODUCTS
VIEWS = ("items", "keys", "values")
TAKERS = ("list", "tuple", "dict", "sorted", "sum", "any", "all", "enumerate", "zip", "max", "min")


def functions_in(tree):
    return [node for node in ast.walk(tree) if isinstance(node, ast.FunctionDef)]


def classes_in(tree):
    return [node for node in ast.walk(tree) if isinstance(node, ast.ClassDef)]


def imported(tree):
    return [(node.module, alias.name) for node in tree.body if isinstance(node, ast.ImportFrom) for alias in node.names]


def bound_in(function):
    """All names that a function binds: parameters and targets."""
    names = [node for node in ast.walk(function) if isinstance(node, ast.Name)]
    parameters = [node.arg for node in ast.walk(function.args) if isinstance(node, ast.arg)]
    return parameters + [node.id for node in names if not isinstance(node.ctx, ast.Load)]


def stored_attributes(tree):
    return [node.attr for node in ast.walk(tree) if isinstance(node, ast.Attribute) and isinstance(node.ctx, ast.Store)]


def called(node):
    """The name of the function or method that is called, or None."""
    if isinstance(node, ast.Call):
        return getattr(node.func, "id", None) or getattr(node.func, "attr", None)
    return None


def is_view(node):
    if not isinstance(node, ast.Call):
        return False
    if isinstance(node.func, ast.Name):
        return node.func.id in AT_ONCE
    return isinstance(node.func, ast.Attribute) and node.func.attr in VIEWS


def is_class_test(node):
    """Whether it is a comparison of `type(x)` with a builtin class by `is` or `is not`."""
    if not isinstance(node, ast.Compare) or called(node.left) != "type" or len(node.left.args) != 1:
        return False
    return len(node.ops) == 1 and isinstance(node.ops[0], (ast.Is, ast.IsNot)) and (
        getattr(node.comparators[0], "id", None) in ("int", "str", "bool", "list", "tuple", "dict", "set"))


def is_set(node):
    return isinstance(node, (ast.Set, ast.SetComp)) or (isinstance(node, ast.Call) and called(node) == "set")


class LanguageTest(unittest.TestCase):
    def each(self, kind):
        for path, tree in TREES.items():
            for node in ast.walk(tree):
                if isinstance(node, kind):
                    yield f"{path.name}:{getattr(node, 'lineno', 0)}", node

    def test_files(self):
        self.assertIn(FOLDER / "__init__.py", FILES)
        for path in FOLDER.rglob("*"):
            if "__pycache__" not in path.parts:
                self.assertTrue(path.is_dir() or re.fullmatch(r"[a-z0-9_]+\.py", path.name), path)
                self.assertNotIn(path.stem, dir(builtins))
        self.assertLessEqual(len(FILES), 100)

    def test_sizes_and_characters(self):
        for path, tree in TREES.items():
            lines = path.read_text(encoding="utf-8").split("\n")
            self.assertLessEqual(len(lines), 399, path.name)
            for number, line in enumerate(lines, 1):
                self.assertLessEqual(len(line), 120, f"{path.name}:{number}")
                self.assertTrue(all(" " <= sign <= "~" for sign in line), f"{path.name}:{number}")
            for node in functions_in(tree):
                self.assertLessEqual(node.end_lineno - node.lineno + 1, 40, f"{path.name}:{node.name}")

    def test_python_gives_no_warnings(self):
        with warnings.catch_warnings():
            warnings.simplefilter("error")
            for path in FILES:
                compile(path.read_text(encoding="utf-8"), str(path), "exec")

    def test_imports(self):
        edges = {}
        for path, tree in TREES.items():
            own = "relatedrights." + path.stem
            edges[own] = []
            behind = False
            for node in tree.body:
                self.assertFalse(isinstance(node, ast.ImportFrom) and behind, f"{path.name}: imports stand at the top")
                docstring = isinstance(node, ast.Expr) and node is tree.body[0]
                behind = behind or not (docstring or isinstance(node, ast.ImportFrom))
            for node in ast.walk(tree):
                self.assertNotIsInstance(node, ast.Import)
                if isinstance(node, ast.ImportFrom):
                    self.assertEqual(node.level, 0)
                    self.assertTrue(all(alias.asname is None for alias in node.names))
            for module, name in imported(tree):
                if module in LIBRARY:
                    self.assertIn(name, LIBRARY[module])
                    continue
                edges[own].append(module)
                target = FOLDER / (module.removeprefix("relatedrights.") + ".py")
                names = [getattr(node, "name", None) for node in TREES[target].body]
                names += [node.targets[0].id for node in TREES[target].body if isinstance(node, ast.Assign)]
                self.assertIn(name, names, path.name)
                self.assertGreater(sum(isinstance(node, ast.Name) and node.id == name for node in ast.walk(tree)), 0,
                                   f"{path.name} does not use {name}")
        self.assert_no_ring(edges)

    def assert_no_ring(self, edges):
        left = dict(edges)
        while left:
            free = [module for module in left if not any(other in left for other in left[module])]
            self.assertTrue(free, f"files that import from each other: {sorted(left)}")
            for module in free:
                del left[module]

    def test_module_level(self):
        for path, tree in TREES.items():
            self.assertTrue(ast.get_docstring(tree), path.name)
            names = [name for _, name in imported(tree)]
            for node in tree.body[1:]:
                self.assertIsInstance(node, (ast.ImportFrom, ast.FunctionDef, ast.ClassDef, ast.Assign), path.name)
                if isinstance(node, ast.Assign):
                    ast.literal_eval(node.value)
                    self.assertEqual([isinstance(target, ast.Name) for target in node.targets], [True])
                    names.append(node.targets[0].id)
                elif not isinstance(node, ast.ImportFrom):
                    names.append(node.name)
            self.assertEqual(len(names), len(set(names)), path.name)

    def test_barred_statements(self):
        for place, node in self.each(BARRED_NODES):
            self.fail(f"{place}: {type(node).__name__}")
        for place, node in self.each((ast.FunctionDef, ast.ClassDef)):
            self.assertEqual(node.decorator_list, [], place)
        for place, node in self.each(ast.ExceptHandler):
            names = [getattr(part, "id", None) for part in ast.walk(node.type)]
            for name in ("Exception", "TypeError", "AttributeError", "RuntimeError", "OverflowError", None):
                self.assertEqual(names.count(name), 0 if name else names.count(None), place)

    def test_global_names(self):
        taken = [name for tree in TREES.values() for module, name in imported(tree)]
        for path, tree in TREES.items():
            plain = {node.targets[0].id for node in tree.body if isinstance(node, ast.Assign)
                     and isinstance(node.value, ast.Constant)}
            statements = [node for node in ast.walk(tree) if isinstance(node, ast.Global)]
            functions = [node for node in tree.body if isinstance(node, ast.FunctionDef)]
            first = [statement for function in functions for statement in function.body[1:2]]
            for node in statements:
                self.assertIn(node, first, path.name)
                self.assertLessEqual(set(node.names), plain, path.name)
                self.assertFalse(set(node.names) & set(taken), path.name)

    def test_names(self):
        own = {node.name for tree in TREES.values() for node in classes_in(tree) + functions_in(tree)}
        fine = [node.left.func for tree in TREES.values() for node in ast.walk(tree) if is_class_test(node)]
        for path, tree in TREES.items():
            taken = {name for _, name in imported(tree)} | {node.name for node in classes_in(tree)}
            taken |= {node.name for node in tree.body if isinstance(node, ast.FunctionDef)}
            for function in functions_in(tree):
                for name in bound_in(function):
                    self.assertNotIn(name, taken, f"{path.name}:{function.name}")
                    self.assertFalse(hasattr(builtins, name), f"{path.name}:{function.name}: {name}")
                    self.assertNotIn(name, BARRED_NAMES)
                    self.assertRegex(name, r"^(_|_?[A-Za-z][A-Za-z0-9_]*)$")
            for node in ast.walk(tree):
                known = isinstance(node, ast.Name) and isinstance(node.ctx, ast.Load) and hasattr(builtins, node.id)
                if known and node not in fine:
                    self.assertIn(node.id, BUILTINS, f"{path.name}:{node.lineno}")
        for name in own:
            self.assertTrue(name.startswith("__") or not hasattr(builtins, name), name)
            self.assertNotIn(name, BARRED_NAMES)

    def test_words_and_texts(self):
        fine = [node.left.func for tree in TREES.values() for node in ast.walk(tree) if is_class_test(node)]
        for place, node in self.each((ast.Name, ast.Attribute, ast.arg)):
            if node in fine:
                continue
            word = getattr(node, "id", None) or getattr(node, "attr", None) or getattr(node, "arg", None)
            self.assertNotIn(word, BARRED_WORDS, place)
            self.assertFalse(re.search("dataclass|overload|contextmanager|_wall|_WallAttr", word), place)
        for place, node in self.each(ast.Constant):
            self.assertNotIsInstance(node.value, (float, complex), place)
            if isinstance(node.value, str):
                self.assertNotIn("%", node.value, place)
                self.assertFalse(re.search(r"\b__\w+", node.value), place)

    def test_methods_and_attributes(self):
        methods = {node.name for tree in TREES.values() for one in classes_in(tree) for node in one.body
                   if isinstance(node, ast.FunctionDef)}
        stored = {name for tree in TREES.values() for name in stored_attributes(tree)}
        self.assertEqual(stored & BARRED_ATTRIBUTES, set())
        self.assertEqual(stored & methods, set())
        self.assertEqual(methods & {name for one in (str, int, list, dict, set, bytes, tuple) for name in dir(one)
                                    if not name.startswith("__")}, set())
        for place, node in self.each(ast.Call):
            if isinstance(node.func, ast.Attribute):
                self.assertIn(node.func.attr, METHODS | methods, place)
                if node.func.attr not in methods:
                    self.assertEqual(node.keywords, [], place)
        callees = [id(node.func) for _, node in self.each(ast.Call)]
        for place, node in self.each(ast.Attribute):
            if id(node) not in callees:
                self.assertIn(node.attr, stored, place)

    def test_is_stands_beside_none_true_and_false(self):
        for place, node in self.each(ast.Compare):
            if not is_class_test(node) and any(isinstance(sign, (ast.Is, ast.IsNot)) for sign in node.ops):
                self.assertIsInstance(node.comparators[0], ast.Constant, place)

    def test_sets_are_measured_or_sorted_at_once(self):
        for path, tree in TREES.items():
            fine = []
            for node in ast.walk(tree):
                if called(node) in ("len", "sorted") and len(node.args) == 1:
                    fine.extend([id(part) for part in ast.walk(node.args[0]) if is_set(part)])
                if isinstance(node, ast.Compare) and isinstance(node.ops[0], (ast.In, ast.NotIn)):
                    fine.append(id(node.comparators[0]))
            for node in ast.walk(tree):
                self.assertTrue(not is_set(node) or id(node) in fine, f"{path.name}:{getattr(node, 'lineno', 0)}")

    def test_views_are_iterated_at_once(self):
        for path, tree in TREES.items():
            fine = []
            for node in ast.walk(tree):
                if isinstance(node, (ast.For, ast.comprehension)):
                    fine.append(id(node.iter))
                if isinstance(node, ast.Call) and isinstance(node.func, ast.Name):
                    if node.func.id in TAKERS or (node.func.id in PRODUCTS and called(node.args[0]) in ("range", "zip")):
                        fine.extend([id(argument) for argument in node.args])
            for node in ast.walk(tree):
                self.assertTrue(not is_view(node) or id(node) in fine, f"{path.name}:{getattr(node, 'lineno', 0)}")

    def test_classes(self):
        for path, tree in TREES.items():
            for one in classes_in(tree):
                self.assertIn(one, tree.body, path.name)
                names = [node.name for node in one.body if isinstance(node, ast.FunctionDef)]
                self.assertEqual(len(names), len(set(names)), f"{path.name}:{one.name}")
                for node in one.body[1:]:
                    self.assertIsInstance(node, ast.FunctionDef, f"{path.name}:{one.name}")

    def test_every_function_and_class_says_what_it_is_for(self):
        for place, node in self.each((ast.FunctionDef, ast.ClassDef)):
            self.assertTrue(node.name == "__init__" or ast.get_docstring(node), place)


if __name__ == "__main__":
    unittest.main()
