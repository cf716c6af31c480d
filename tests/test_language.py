"""What a script can see of LANGUAGE.md in the files of the package."""

import ast
import builtins
import os
import unittest

ROOT = os.path.dirname(os.path.dirname(os.path.abspath(__file__)))
PACKAGE = os.path.join(ROOT, "leastfield")

LIBRARY = {"math": {"gcd", "lcm", "isqrt", "comb", "perm", "factorial"}}
BUILTINS = set("""len range enumerate zip min max sum abs sorted reversed int str bool list tuple dict set isinstance ord
    repr any all divmod Exception ValueError TypeError KeyError IndexError LookupError ZeroDivisionError NotImplemented
    ArithmeticError OverflowError RuntimeError NotImplementedError True False None""".split())
# Python's own prompt, and doctest with it, keeps the last value as a builtin "_".
ALL_BUILTINS = set(dir(builtins)) - {"_"}
DOUBLE_UNDER = {"__init__", "__eq__", "__repr__", "__str__", "__len__"}
METHODS = set("""append clear copy count endswith extend find get index insert isalnum isalpha isdigit islower isspace
    isupper items join keys ljust lower lstrip partition pop remove replace reverse rfind rjust rpartition rsplit rstrip
    setdefault split splitlines startswith strip update upper values zfill bit_length title capitalize swapcase casefold
    center expandtabs removeprefix removesuffix rindex isascii isdecimal isnumeric istitle isidentifier isprintable
    translate add discard""".split())
STATEMENTS = (ast.FunctionDef, ast.ClassDef, ast.Return, ast.Delete, ast.Assign, ast.AugAssign, ast.For, ast.While, ast.If,
              ast.Raise, ast.Try, ast.Assert, ast.ImportFrom, ast.Expr, ast.Pass, ast.Break, ast.Continue)
BARRED = set("register mro elements open input law version_info with_traceback add_note".split())
BARRED_NAMES = BARRED | set("""attrgetter breakpoint builtins compile copyright credits delattr dir eval exec exit gc getattr
    globals hasattr help id importlib license locals methodcaller os quit setattr super type vars sys""".split())
WORDS = set("type typing typing_extensions enum Enum IntEnum StrEnum Flag IntFlag Generic Protocol ABC ABCMeta namedtuple "
            "NamedTuple TypedDict TYPE_CHECKING abstractmethod".split())


def package_files():
    return sorted(name for name in os.listdir(PACKAGE) if name != "__pycache__")


def source_of(name):
    with open(os.path.join(PACKAGE, name), encoding="utf-8", newline="") as file:
        return file.read()


TREES = {name: ast.parse(source_of(name)) for name in package_files() if name.endswith(".py")}


def everywhere(kind):
    """All nodes of a kind, with the names of their files."""
    for name, tree in TREES.items():
        for node in ast.walk(tree):
            if isinstance(node, kind):
                yield name, node


class Files(unittest.TestCase):
    def test_only_python_files_with_plain_names(self):
        for name in package_files():
            self.assertTrue(name.endswith(".py"), name)
            self.assertTrue(name[:-3].replace("_", "a").isalnum() and name == name.lower(), name)
            self.assertTrue(os.path.isfile(os.path.join(PACKAGE, name)), name)
            self.assertNotIn(name[:-3], ALL_BUILTINS)
            self.assertFalse(name.startswith(("law_", "test")), name)
        self.assertIn("__init__.py", package_files())
        self.assertLessEqual(len(package_files()), 100)

    def test_sizes(self):
        for name in package_files():
            lines = source_of(name).split("\n")
            self.assertLessEqual(len(lines), 399, name)
            for line in lines:
                self.assertLessEqual(len(line), 120, name)
        for name, node in everywhere(ast.FunctionDef):
            self.assertLessEqual(node.end_lineno - node.lineno + 1, 40, (name, node.name))

    def test_characters(self):
        for name in package_files():
            for sign in source_of(name):
                self.assertTrue(sign == "\n" or " " <= sign <= "~", (name, sign))


class Imports(unittest.TestCase):
    def test_where_imports_stand_and_what_they_name(self):
        for name, tree in TREES.items():
            body = [node for node in tree.body if not isinstance(node, ast.Expr)]
            heads = [isinstance(node, ast.ImportFrom) for node in body]
            self.assertEqual(heads, sorted(heads, reverse=True), name)
            for node in body:
                if isinstance(node, ast.ImportFrom):
                    self.check_import(name, node)
        inner = [node for _, node in everywhere(ast.ImportFrom)]
        self.assertEqual(len(inner), sum(isinstance(node, ast.ImportFrom) for tree in TREES.values() for node in tree.body))
        self.assertEqual(list(everywhere(ast.Import)), [])

    def check_import(self, name, node):
        self.assertEqual(node.level, 0, name)
        if node.module in LIBRARY:
            for alias in node.names:
                self.assertIn(alias.name, LIBRARY[node.module])
                self.assertIsNone(alias.asname)
            return
        package, _, module = node.module.partition(".")
        self.assertEqual(package, "leastfield", name)
        self.assertIn(module + ".py", TREES, name)
        defined = {inner.name for inner in TREES[module + ".py"].body if isinstance(inner, (ast.FunctionDef, ast.ClassDef))}
        defined |= {target.id for inner in TREES[module + ".py"].body if isinstance(inner, ast.Assign)
                    for target in inner.targets}
        for alias in node.names:
            self.assertIn(alias.name, defined, name)
            self.assertFalse(alias.name.startswith("_"), (name, alias.name))

    def test_imported_names_are_used(self):
        for name, tree in TREES.items():
            used = {node.id for node in ast.walk(tree) if isinstance(node, ast.Name)}
            for node in tree.body:
                if isinstance(node, ast.ImportFrom):
                    for alias in node.names:
                        self.assertIn(alias.asname or alias.name, used, name)

    def test_no_files_import_from_each_other(self):
        ahead = {name[:-3]: {node.module.partition(".")[2] for node in tree.body
                             if isinstance(node, ast.ImportFrom) and node.module.startswith("leastfield.")}
                 for name, tree in TREES.items()}
        while ahead:
            free = [name for name in ahead if not ahead[name]]
            self.assertTrue(free, ahead)
            ahead = {name: ahead[name] - set(free) for name in ahead if name not in free}


class Statements(unittest.TestCase):
    def test_only_statements_of_the_subset(self):
        for name, node in everywhere(ast.stmt):
            self.assertIsInstance(node, STATEMENTS, (name, node.lineno))

    def test_module_level(self):
        for name, tree in TREES.items():
            for at, node in enumerate(tree.body):
                if isinstance(node, ast.Expr):
                    self.assertEqual(at, 0, name)
                    self.assertIsInstance(node.value.value, str)
                if isinstance(node, ast.Assign):
                    self.assertEqual(len(node.targets), 1)
                    ast.literal_eval(node.value)
            bound = [node.name for node in tree.body if isinstance(node, (ast.FunctionDef, ast.ClassDef))]
            bound += [node.targets[0].id for node in tree.body if isinstance(node, ast.Assign)]
            bound += [alias.name for node in tree.body if isinstance(node, ast.ImportFrom) for alias in node.names]
            self.assertEqual(len(bound), len(set(bound)), name)

    def test_functions(self):
        for name, node in everywhere(ast.FunctionDef):
            self.assertEqual(node.decorator_list, [], (name, node.name))
            self.assertIsNone(node.returns)
            if node.name.startswith("__"):
                self.assertIn(node.name, DOUBLE_UNDER)
        for name, node in everywhere(ast.ClassDef):
            self.assertEqual(node.decorator_list, [], (name, node.name))
            self.assertLessEqual(len(node.bases), 1)

    def test_no_floats_and_no_division(self):
        for name, node in everywhere(ast.Constant):
            self.assertNotIsInstance(node.value, (float, complex), (name, node.lineno))
        for name, node in everywhere((ast.Div, ast.MatMult, ast.GeneratorExp, ast.Yield, ast.Starred, ast.Global)):
            self.fail((name, node))

    def test_strings(self):
        for name, node in everywhere(ast.Constant):
            if isinstance(node.value, str):
                self.assertNotIn("%", node.value, (name, node.lineno))
        for name in TREES:
            self.assertNotIn("\\", source_of(name).replace("\\n", "").replace("\\\\", ""), name)

    def test_is_stands_by_none_true_false(self):
        for name, node in everywhere(ast.Compare):
            for operator, right in zip(node.ops, node.comparators):
                if isinstance(operator, (ast.Is, ast.IsNot)):
                    self.assertIsInstance(right, ast.Constant, (name, node.lineno))

    def test_except_names_errors_of_the_package(self):
        for name, node in everywhere(ast.ExceptHandler):
            self.assertIsInstance(node.type, ast.Name, (name, node.lineno))
            self.assertTrue(node.type.id.startswith("Invalid") or node.type.id in ("FieldError", "Refused"), name)


class Names(unittest.TestCase):
    def bound_names(self):
        for name, node in everywhere((ast.Name, ast.arg, ast.FunctionDef, ast.ClassDef)):
            if isinstance(node, ast.Name):
                if isinstance(node.ctx, ast.Store):
                    yield name, node.id
            else:
                yield name, node.arg if isinstance(node, ast.arg) else node.name

    def test_no_builtin_has_another_meaning(self):
        for file, name in self.bound_names():
            self.assertNotIn(name, ALL_BUILTINS, file)
            self.assertNotIn(name, BARRED_NAMES, file)

    def test_no_local_name_is_that_of_an_import_or_class(self):
        for file, tree in TREES.items():
            taken = {alias.name for node in tree.body if isinstance(node, ast.ImportFrom) for alias in node.names}
            taken |= {node.name for node in tree.body if isinstance(node, ast.ClassDef)}
            for node in ast.walk(tree):
                if isinstance(node, ast.arg):
                    self.assertNotIn(node.arg, taken, file)
                if isinstance(node, ast.Name) and isinstance(node.ctx, ast.Store):
                    self.assertNotIn(node.id, taken, file)

    def test_only_some_builtins_are_used(self):
        for file, node in everywhere(ast.Name):
            if node.id in ALL_BUILTINS:
                self.assertIn(node.id, BUILTINS, (file, node.lineno))

    def test_only_some_methods_are_called(self):
        own = {node.name for _, node in everywhere(ast.FunctionDef)}
        for file, node in everywhere(ast.Call):
            if isinstance(node.func, ast.Attribute):
                self.assertTrue(node.func.attr in METHODS or node.func.attr in own, (file, node.lineno))
                self.assertEqual(node.keywords, [], (file, node.lineno))

    def test_attributes_are_set_by_some_class(self):
        set_somewhere = {node.attr for _, node in everywhere(ast.Attribute) if isinstance(node.ctx, ast.Store)}
        for file, node in everywhere(ast.Attribute):
            if node.attr not in METHODS:
                self.assertIn(node.attr, set_somewhere, (file, node.lineno))

    def test_barred_words(self):
        for file, node in everywhere((ast.Name, ast.Attribute, ast.Constant)):
            if isinstance(node, ast.Constant):
                continue
            word = node.id if isinstance(node, ast.Name) else node.attr
            self.assertNotIn(word, BARRED | WORDS, (file, node.lineno))

    def test_lists_instead_of_sets_and_kept_iterators(self):
        for file, tree in TREES.items():
            for node in ast.walk(tree):
                for child in ast.iter_child_nodes(node):
                    self.check_kept(file, node, child)

    def check_kept(self, file, parent, node):
        """What is iterated at once stands in a loop, or in a call that iterates it."""
        if isinstance(node, (ast.Set, ast.SetComp)):
            self.assertTrue(isinstance(parent, ast.Call) and parent.func.id in ("sorted", "len"), (file, node.lineno))
        if not isinstance(node, ast.Call):
            return
        word = node.func.id if isinstance(node.func, ast.Name) else node.func.attr
        if word in ("zip", "enumerate", "reversed", "range", "items", "keys", "values"):
            right = isinstance(parent, (ast.For, ast.comprehension)) or (
                isinstance(parent, ast.Call) and isinstance(parent.func, ast.Name)
                and parent.func.id in ("list", "tuple", "dict", "sorted", "sum", "enumerate", "zip", "min", "max"))
            self.assertTrue(right, (file, node.lineno))
