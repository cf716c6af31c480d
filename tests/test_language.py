"""What a script can see plainly of LANGUAGE.md in the files of the package."""

import ast
import builtins
import os
import unittest

ROOT = os.path.dirname(os.path.dirname(os.path.abspath(__file__)))
PACKAGE = os.path.join(ROOT, "leastfield")

LIBRARY = {
    "heapq": "heappush heappop heapify heapreplace heappushpop".split(),
    "math": "gcd lcm isqrt comb perm factorial".split(),
    "itertools": "product combinations permutations chain accumulate pairwise islice zip_longest".split(),
    "collections": ["defaultdict"],
    "__future__": ["annotations"],
}
BUILTINS = set("""len range enumerate zip min max sum abs sorted reversed int str bool bytes list tuple dict set frozenset
    isinstance ord repr any all divmod pow getattr hasattr setattr iter next map super property staticmethod classmethod
    Exception ValueError TypeError KeyError IndexError LookupError ZeroDivisionError ArithmeticError OverflowError
    RuntimeError NotImplementedError AttributeError StopIteration NotImplemented True False None object float""".split())
METHODS = set("""append clear copy count endswith extend find get index insert isalnum isalpha isdigit islower isspace
    isupper items join keys ljust lower lstrip partition pop remove replace reverse rfind rjust rpartition rsplit rstrip
    setdefault split splitlines startswith strip update upper values zfill bit_length title capitalize swapcase casefold
    center expandtabs removeprefix removesuffix rindex isascii isdecimal isnumeric istitle isidentifier isprintable
    translate add discard sort encode decode hex format""".split())
STATEMENTS = (ast.FunctionDef, ast.ClassDef, ast.Return, ast.Delete, ast.Assign, ast.AugAssign, ast.AnnAssign, ast.For,
              ast.While, ast.If, ast.With, ast.Match, ast.Raise, ast.Try, ast.Assert, ast.Import, ast.ImportFrom,
              ast.Nonlocal, ast.Expr, ast.Pass, ast.Break, ast.Continue)
NOT_CAUGHT = set("Exception BaseException TypeError ArithmeticError OverflowError RuntimeError NotImplementedError "
                 "AttributeError".split())
BARRED = set("register mro elements open input law version_info with_traceback add_note".split())
# Python's own prompt, and doctest with it, keeps the last value as a builtin "_".
ALL_BUILTINS = set(dir(builtins)) - {"_"}


def package_files():
    return sorted(name for name in os.listdir(PACKAGE) if name != "__pycache__")


def source_of(name):
    with open(os.path.join(PACKAGE, name), encoding="utf-8", newline="") as file:
        return file.read()


TREES = {name: ast.parse(source_of(name)) for name in package_files() if name.endswith(".py")}


def everywhere(kind):
    """All nodes of a kind, with the names of their files."""
    for name, tree in TREES.items():
        for node in ast.walk(tree):
            if isinstance(node, kind):
                yield name, node


def is_docstring(node):
    return isinstance(node, ast.Expr) and isinstance(node.value, ast.Constant) and isinstance(node.value.value, str)


class Files(unittest.TestCase):
    def test_only_python_files_with_plain_names(self):
        self.assertIn("__init__.py", package_files())
        self.assertLessEqual(len(package_files()), 100)
        for name in package_files():
            self.assertTrue(os.path.isfile(os.path.join(PACKAGE, name)), name)
            self.assertTrue(name.endswith(".py"), name)
            self.assertTrue(name[:-3].replace("_", "a").isalnum() and name == name.lower(), name)
            self.assertNotIn(name[:-3], ALL_BUILTINS | BARRED)
            self.assertFalse(name.startswith(("law_", "test")), name)

    def test_sizes(self):
        for name in package_files():
            lines = source_of(name).splitlines()
            self.assertLessEqual(len(lines), 399, name)
            for line in lines:
                self.assertLessEqual(len(line), 120, name)
        for name, node in everywhere(ast.FunctionDef):
            self.assertLessEqual(node.end_lineno - node.lineno + 1, 40, (name, node.name))

    def test_characters(self):
        for name in package_files():
            self.assertEqual([sign for sign in source_of(name) if not (sign == "\n" or " " <= sign <= "~")], [], name)


class Imports(unittest.TestCase):
    def test_they_stand_at_the_top(self):
        for name, tree in TREES.items():
            heads = [isinstance(node, (ast.Import, ast.ImportFrom)) for node in tree.body if not is_docstring(node)]
            self.assertEqual(heads, sorted(heads, reverse=True), name)
            inner = [node for node in ast.walk(tree) if isinstance(node, (ast.Import, ast.ImportFrom))]
            self.assertEqual(len(inner), sum(heads), name)

    def test_what_they_name(self):
        for name, node in everywhere(ast.Import):
            self.assertEqual((name, [alias.name for alias in node.names]), ("__main__.py", ["sys"]))
        for name, node in everywhere(ast.ImportFrom):
            self.assertEqual(node.level, 0, name)
            if node.module in LIBRARY:
                for alias in node.names:
                    self.assertIn(alias.name, LIBRARY[node.module], name)
                continue
            package, _, module = node.module.partition(".")
            self.assertEqual(package, "leastfield", name)
            self.assertIn(module + ".py", TREES, name)
            self.assertNotEqual(module, "__main__", name)
            for alias in node.names:
                self.assertIn(alias.name, self.defined_in(module + ".py"), name)

    def defined_in(self, name):
        found = set()
        for node in TREES[name].body:
            if isinstance(node, (ast.FunctionDef, ast.ClassDef)):
                found.add(node.name)
            if isinstance(node, ast.Assign):
                found.add(node.targets[0].id)
            if isinstance(node, ast.AnnAssign):
                found.add(node.target.id)
        return found

    def test_no_files_import_from_each_other(self):
        ahead = {name[:-3]: {node.module.partition(".")[2] for node in tree.body
                             if isinstance(node, ast.ImportFrom) and node.module.startswith("leastfield.")}
                 for name, tree in TREES.items()}
        while ahead:
            free = [name for name in ahead if not ahead[name]]
            self.assertTrue(free, ahead)
            ahead = {name: ahead[name] - set(free) for name in ahead if name not in free}


class Statements(unittest.TestCase):
    def test_only_statements_of_the_subset(self):
        for name, node in everywhere(ast.stmt):
            self.assertIsInstance(node, STATEMENTS, (name, node.lineno))

    def test_module_level(self):
        allowed = (ast.Import, ast.ImportFrom, ast.FunctionDef, ast.ClassDef, ast.Assign, ast.AnnAssign)
        for name, tree in TREES.items():
            for at, node in enumerate(tree.body):
                right = isinstance(node, allowed) or (at == 0 and is_docstring(node))
                self.assertTrue(right or (name == "__main__.py" and isinstance(node, ast.If)), (name, node.lineno))
                if isinstance(node, ast.Assign):
                    self.assertEqual([target.__class__ for target in node.targets], [ast.Name], (name, node.lineno))

    def test_no_floats_and_no_division(self):
        for name, node in everywhere(ast.Constant):
            self.assertNotIsInstance(node.value, (float, complex), (name, node.lineno))
        for name, node in everywhere(ast.BinOp):
            self.assertNotIsInstance(node.op, (ast.Div, ast.MatMult), (name, node.lineno))

    def test_no_generators(self):
        # Plates and meshes have their own ==: so any, all, sum, sorted and the like take lists.
        for name, node in everywhere((ast.GeneratorExp, ast.Yield, ast.YieldFrom)):
            self.fail((name, node.lineno))

    def test_iterated_at_once(self):
        # L2 Products, L23: a range may be measured; all of these are iterated where they stand.
        lazy = "zip enumerate reversed range combinations permutations product items keys values".split()
        takers = "list tuple dict sorted sum any all enumerate zip min max combinations".split()
        for name, tree in TREES.items():
            above = {child: node for node in ast.walk(tree) for child in ast.iter_child_nodes(node)}
            for node in ast.walk(tree):
                called = node.func if isinstance(node, ast.Call) else None
                word = called.id if isinstance(called, ast.Name) else called.attr if isinstance(called, ast.Attribute) else ""
                if word in lazy:
                    upper = above[node]
                    taken = isinstance(upper, ast.Call) and isinstance(upper.func, ast.Name) and upper.func.id in takers
                    gone_over = isinstance(upper, (ast.For, ast.comprehension)) and upper.iter is node
                    self.assertTrue(taken or gone_over, (name, node.lineno))

    def test_sets_stand_on_the_spot(self):
        for name, tree in TREES.items():
            above = {child: node for node in ast.walk(tree) for child in ast.iter_child_nodes(node)}
            for node in ast.walk(tree):
                made = isinstance(node, ast.Call) and isinstance(node.func, ast.Name) and node.func.id in ("set", "frozenset")
                if made or isinstance(node, (ast.Set, ast.SetComp)):
                    upper = above[node]
                    self.assertTrue(isinstance(upper, ast.Call) and upper.func.id in ("sorted", "len") and not upper.keywords, (name, node.lineno))

    def test_no_percent_sign_in_strings(self):
        for name, node in everywhere(ast.Constant):
            if isinstance(node.value, str):
                self.assertNotIn("%", node.value, (name, node.lineno))

    def test_errors_are_caught_by_name(self):
        for name, node in everywhere(ast.ExceptHandler):
            kinds = node.type.elts if isinstance(node.type, ast.Tuple) else [node.type]
            self.assertTrue(kinds, (name, node.lineno))
            for kind in kinds:
                self.assertIsInstance(kind, ast.Name, (name, node.lineno))
                self.assertNotIn(kind.id, NOT_CAUGHT, (name, node.lineno))


class Names(unittest.TestCase):
    def bound_names(self):
        """Names of variables, parameters, classes and functions, those of methods and class values left out."""
        for name, tree in TREES.items():
            inner = {id(child) for node in ast.walk(tree) if isinstance(node, ast.ClassDef) for child in node.body}
            for node in ast.walk(tree):
                if isinstance(node, ast.Name) and isinstance(node.ctx, ast.Store):
                    yield name, node.id
                elif isinstance(node, ast.arg):
                    yield name, node.arg
                elif isinstance(node, (ast.FunctionDef, ast.ClassDef)) and id(node) not in inner:
                    yield name, node.name

    def test_no_builtin_has_another_meaning(self):
        for file, name in self.bound_names():
            self.assertNotIn(name, ALL_BUILTINS | BARRED, file)

    def test_no_local_name_is_that_of_an_import_or_class(self):
        for file, tree in TREES.items():
            taken = {alias.asname or alias.name for node in tree.body if isinstance(node, ast.ImportFrom) for alias in node.names}
            taken |= {node.name for node in tree.body if isinstance(node, ast.ClassDef)}
            for node in ast.walk(tree):
                if isinstance(node, ast.arg):
                    self.assertNotIn(node.arg, taken, file)
                if isinstance(node, ast.Name) and isinstance(node.ctx, ast.Store):
                    self.assertNotIn(node.id, taken, file)

    def test_only_some_builtins_are_used(self):
        for file, node in everywhere(ast.Name):
            if node.id in ALL_BUILTINS and isinstance(node.ctx, ast.Load):
                self.assertTrue(node.id in BUILTINS or (file == "__main__.py" and node.id in ("print", "__name__")),
                                (file, node.lineno))

    def test_no_method_is_an_attribute(self):
        methods = {child.name for _, node in everywhere(ast.ClassDef) for child in node.body if isinstance(child, ast.FunctionDef)}
        kept = {node.attr for _, node in everywhere(ast.Attribute) if isinstance(node.ctx, ast.Store)}
        self.assertEqual(methods & kept, set())
        self.assertEqual((methods | kept) & {"items", "keys", "values", "format", "args", "sort"}, set())
        read = {node.attr for _, node in everywhere(ast.Attribute) if isinstance(node.ctx, ast.Load)}
        self.assertEqual(read - methods - kept - METHODS, set())

    def test_only_some_methods_are_called(self):
        own = {node.name for _, node in everywhere(ast.FunctionDef)}
        own |= {node.attr for _, node in everywhere(ast.Attribute) if isinstance(node.ctx, ast.Store)}
        for file, node in everywhere(ast.Call):
            if isinstance(node.func, ast.Attribute) and file != "__main__.py":
                self.assertTrue(node.func.attr in METHODS or node.func.attr in own, (file, node.lineno))
