"""The package keeps to the subset of Python that LANGUAGE.md describes.

Not each rule can be tested here; these are those that are easily broken.
"""

import ast
import unittest
from pathlib import Path

PACKAGE = Path(__file__).resolve().parent.parent / "keptlines"

BUILTINS = """len range enumerate zip min max sum abs sorted reversed int str bool bytes list tuple dict set
frozenset isinstance ord repr any all divmod iter next map super property staticmethod classmethod
Exception ValueError TypeError KeyError IndexError LookupError ZeroDivisionError ArithmeticError
OverflowError RuntimeError NotImplementedError NotImplemented StopIteration""".split()

LIBRARY = {
    "heapq": "heappush heappop heapify heapreplace heappushpop".split(),
    "math": "gcd lcm isqrt comb perm factorial".split(),
    "itertools": "product combinations permutations".split(),
}

METHODS = """__init__ __eq__ __repr__ __str__ __len__ __enter__ __exit__ __call__ __iter__ __contains__
__getitem__ __setitem__ __bool__ __lt__ __le__ __gt__ __ge__ __ne__""".split()

NAMES_BARRED = """register mro elements open input law version_info with_traceback add_note attrgetter
breakpoint builtins compile copyright credits delattr dir eval exec exit gc getattr globals hasattr help id
importlib license locals methodcaller os quit setattr type vars hash format format_map""".split()

WORDS_BARRED = """type typing typing_extensions enum Enum IntEnum StrEnum Flag IntFlag Generic Protocol ABC
ABCMeta namedtuple NamedTuple TypedDict TYPE_CHECKING abstractmethod""".split()

STATEMENTS_BARRED = (ast.Global, ast.AsyncFunctionDef, ast.AsyncFor, ast.AsyncWith, ast.Await, ast.Div,
                     ast.GeneratorExp, ast.Yield, ast.YieldFrom)

METHODS_OF_VALUES = """append clear copy count endswith extend find get index insert isalnum isalpha isdigit islower
isspace isupper items join keys ljust lower lstrip partition pop remove replace reverse rfind rjust rpartition rsplit
rstrip setdefault split splitlines startswith strip update upper values zfill bit_length __init__""".split()

# What a method or an attribute of a class may not be called, as methods of builtin values are.
ATTRIBUTES_BARRED = """items keys values pop update append clear extend insert remove reverse setdefault sort args
encode decode hex fromhex format mro""".split()


def bound_names(tree):
    """Each name that is bound anywhere in a file, attributes excepted."""
    for node in ast.walk(tree):
        if isinstance(node, ast.Name) and not isinstance(node.ctx, ast.Load):
            yield node.id
        elif isinstance(node, (ast.FunctionDef, ast.ClassDef)):
            yield node.name
        elif isinstance(node, ast.arg):
            yield node.arg
        elif isinstance(node, ast.alias):
            yield node.name
        elif isinstance(node, ast.ExceptHandler) and node.name:
            yield node.name


class LanguageTests(unittest.TestCase):
    def setUp(self):
        self.files = sorted(path for path in PACKAGE.iterdir() if path.name != "__pycache__")
        self.texts = {path.stem: path.read_text(encoding="ascii") for path in self.files}
        self.trees = {name: ast.parse(text) for name, text in self.texts.items()}

    def nodes(self):
        for name, tree in self.trees.items():
            for node in ast.walk(tree):
                yield name, node

    def test_the_folder_holds_python_files_alone(self):
        self.assertEqual({path.suffix for path in self.files}, {".py"})
        self.assertIn("__init__", self.texts)

    def test_sizes_and_characters(self):
        for name, text in self.texts.items():
            self.assertLessEqual(len(text.split("\n")), 400, name)
            for row in text.split("\n"):
                self.assertLessEqual(len(row), 120, row)
                self.assertTrue(all(" " <= sign <= "~" for sign in row), row)
        for name, node in self.nodes():
            if isinstance(node, ast.FunctionDef):
                self.assertLessEqual(node.end_lineno - node.lineno + 1, 40, (name, node.name))

    def test_module_level(self):
        for name, tree in self.trees.items():
            for node in tree.body:
                if isinstance(node, ast.Expr):
                    self.assertIsInstance(node.value, ast.Constant, name)
                elif isinstance(node, ast.Assign):
                    self.check_value(node, [own.name for own in tree.body if isinstance(own, ast.FunctionDef)
                                            and own.lineno < node.lineno])
                    self.assertIsInstance(node.targets[0], ast.Name, name)
                else:
                    self.assertIsInstance(node, (ast.ImportFrom, ast.FunctionDef, ast.ClassDef), name)

    def check_value(self, node, functions):
        """A plain value, or a dict from those to functions that are defined above."""
        if isinstance(node.value, ast.Dict) and isinstance(node.value.values[0], ast.Name):
            for value in node.value.values:
                self.assertIn(value.id, functions)
            for key in node.value.keys:
                ast.literal_eval(key)
        else:
            ast.literal_eval(node.value)

    def test_imports(self):
        uses = {}
        for name, tree in self.trees.items():
            uses[name] = []
            for node in ast.walk(tree):
                self.assertNotIsInstance(node, ast.Import, name)
                if not isinstance(node, ast.ImportFrom):
                    continue
                self.assertIn(node, tree.body, name)
                self.assertEqual(node.level, 0, name)
                wanted = [alias.name for alias in node.names]
                self.assertEqual([alias.asname for alias in node.names], [None] * len(wanted))
                if node.module in LIBRARY:
                    self.assertLessEqual(set(wanted), set(LIBRARY[node.module]), name)
                    continue
                package, _, other = node.module.partition(".")
                self.assertEqual(package, "keptlines", name)
                own = {n.name for n in self.trees[other].body if isinstance(n, (ast.FunctionDef, ast.ClassDef))}
                own |= {n.targets[0].id for n in self.trees[other].body if isinstance(n, ast.Assign)}
                self.assertLessEqual(set(wanted), own, name)
                uses[name].append(other)
        while uses:
            free = [name for name in uses if not uses[name]]
            self.assertTrue(free, "files import from each other")
            uses = {n: [o for o in uses[n] if o not in free] for n in uses if n not in free}

    def test_names(self):
        for name, tree in self.trees.items():
            once = {}
            for bound in bound_names(tree):
                if bound.startswith("__"):
                    self.assertIn(bound, METHODS, name)
                self.assertNotIn(bound, BUILTINS, name)
                self.assertNotIn(bound, NAMES_BARRED, name)
            for node in tree.body:
                for bound in self.bound_at_module_level(node):
                    self.assertNotIn(bound, once, name)
                    once[bound] = True
            self.check_no_local_hides(name, tree)

    def bound_at_module_level(self, node):
        if isinstance(node, ast.ImportFrom):
            return [alias.name for alias in node.names]
        if isinstance(node, ast.Assign):
            return [target.id for target in node.targets]
        return [node.name] if isinstance(node, (ast.FunctionDef, ast.ClassDef)) else []

    def check_no_local_hides(self, name, tree):
        taken = set()
        for node in tree.body:
            if isinstance(node, (ast.ImportFrom, ast.ClassDef)):
                taken |= set(self.bound_at_module_level(node))
        for function in ast.walk(tree):
            if isinstance(function, ast.FunctionDef):
                for node in ast.walk(function):
                    if isinstance(node, ast.arg):
                        self.assertNotIn(node.arg, taken, name)
                    if isinstance(node, ast.Name) and not isinstance(node.ctx, ast.Load):
                        self.assertNotIn(node.id, taken, name)

    def test_builtins(self):
        for name, tree in self.trees.items():
            own = set(bound_names(tree))
            for node in ast.walk(tree):
                if isinstance(node, ast.Name) and isinstance(node.ctx, ast.Load) and node.id not in own:
                    self.assertIn(node.id, BUILTINS, name)

    def test_statements(self):
        for name, node in self.nodes():
            self.assertNotIsInstance(node, STATEMENTS_BARRED, name)
            if isinstance(node, ast.FunctionDef):
                self.assertIn([ast.unparse(decorator) for decorator in node.decorator_list], ([], ["property"]), name)
            if isinstance(node, ast.ClassDef):
                self.assertEqual(node.decorator_list, [], name)
            if isinstance(node, ast.Call):
                for argument in node.args:
                    if isinstance(argument, ast.Starred):
                        self.assertIsInstance(argument.value, (ast.Name, ast.Attribute), name)
            if isinstance(node, ast.ExceptHandler):
                self.assertIsNotNone(node.type, name)

    def test_constants(self):
        for name, node in self.nodes():
            if isinstance(node, ast.Constant):
                self.assertNotIsInstance(node.value, (float, complex), name)
                if isinstance(node.value, str):
                    self.assertNotIn("%", node.value, name)
                    self.assertFalse(node.value.endswith(("._", ".__")), name)

    def test_words_that_do_not_occur(self):
        for name, node in self.nodes():
            if isinstance(node, ast.Name):
                self.assertNotIn(node.id, WORDS_BARRED, name)
            if isinstance(node, ast.Attribute):
                self.assertNotIn(node.attr, WORDS_BARRED, name)
                self.assertFalse(node.attr.startswith("__") and node.attr not in METHODS, (name, node.attr))

    def own_methods(self):
        return {node.name for _, node in self.nodes() if isinstance(node, ast.FunctionDef)}

    def own_attributes(self):
        return {node.attr for _, node in self.nodes()
                if isinstance(node, ast.Attribute) and isinstance(node.ctx, ast.Store)}

    def test_methods_that_are_called(self):
        known = self.own_methods() | set(METHODS_OF_VALUES)
        for name, node in self.nodes():
            if isinstance(node, ast.Call) and isinstance(node.func, ast.Attribute):
                self.assertIn(node.func.attr, known, name)

    def test_attributes(self):
        known = self.own_methods() | self.own_attributes() | set(METHODS_OF_VALUES)
        for name, node in self.nodes():
            if isinstance(node, ast.Attribute):
                self.assertIn(node.attr, known, name)
        self.assertFalse(self.own_attributes() & set(ATTRIBUTES_BARRED))

    def test_classes(self):
        for name, tree in self.trees.items():
            for node in tree.body:
                if isinstance(node, ast.ClassDef):
                    methods = [own.name for own in node.body if isinstance(own, ast.FunctionDef)]
                    self.assertEqual(len(set(methods)), len(methods), (name, node.name))
                    stored = {own.attr for own in ast.walk(node) if isinstance(own, ast.Attribute)
                              and isinstance(own.ctx, ast.Store) and isinstance(own.value, ast.Name)}
                    self.assertFalse(stored & set(methods), (name, node.name))
                    if "__getitem__" in methods:
                        self.assertIn("__iter__", methods)
                    for own in node.body:
                        if isinstance(own, ast.FunctionDef) and own.name == "__exit__":
                            for row in own.body:
                                self.assertIsInstance(row, ast.Assign)


if __name__ == "__main__":
    unittest.main()
