"""Rules of the language that the files of the package can be asked about one by one."""

import ast
import builtins
import os
import re
import unittest

HERE = os.path.join(os.path.dirname(os.path.dirname(os.path.abspath(__file__))), "justthese")
LIBRARY = {
    "heapq": "heappush heappop heapify heapreplace heappushpop",
    "math": "gcd lcm isqrt comb perm factorial",
    "itertools": "product combinations permutations chain accumulate pairwise islice zip_longest",
    "collections": "defaultdict deque",
}
BUILTINS = """len range enumerate zip min max sum abs sorted reversed int str bool bytes list tuple dict set frozenset
isinstance ord repr any all divmod pow getattr hasattr setattr iter next type map Exception ValueError TypeError KeyError
IndexError LookupError ZeroDivisionError ArithmeticError OverflowError RuntimeError NotImplementedError AttributeError
StopIteration NotImplemented""".split()
METHODS = """append clear copy count endswith extend find get index insert isalnum isalpha isdigit islower isspace isupper
items join keys ljust lower lstrip partition pop remove replace reverse rfind rjust rpartition rsplit rstrip setdefault
split splitlines startswith strip update upper values zfill bit_length title capitalize swapcase casefold center
expandtabs removeprefix removesuffix rindex isascii isdecimal isnumeric istitle isidentifier isprintable translate sort
add discard""".split()
DOUBLE = "init eq repr str len enter exit call iter lt le gt ge ne neg bool contains getitem setitem add sub mul".split()
BARRED = """register mro elements open input law version_info with_traceback add_note attrgetter breakpoint compile copyright
credits delattr dir eval exec exit gc globals help id importlib license locals methodcaller os quit super vars sys""".split()
NODES = (ast.Global, ast.Await, ast.AsyncFor, ast.AsyncWith, ast.AsyncFunctionDef, ast.Div)
LISTED = ("any", "all", "min", "max", "sum", "sorted")
OWN_VALUES = {name for kind in (str, int, list, dict, set, tuple, bytes) for name in dir(kind)}


def sources():
    """The name, the text and the tree of each file of the package."""
    for name in sorted(os.listdir(HERE)):
        if name != "__pycache__":
            with open(os.path.join(HERE, name), encoding="utf-8") as file:
                text = file.read()
            yield name, text, ast.parse(text)


def bound_names(tree):
    """Each name that a file binds anywhere, with the node that does."""
    for node in ast.walk(tree):
        if isinstance(node, ast.Name) and not isinstance(node.ctx, ast.Load):
            yield node.id, node
        elif isinstance(node, (ast.FunctionDef, ast.ClassDef)):
            yield node.name, node
        elif isinstance(node, ast.arg):
            yield node.arg, node
        elif isinstance(node, ast.alias):
            yield node.asname or node.name, node


class Files(unittest.TestCase):
    def test_files(self):
        names = [name for name, _, _ in sources()]
        self.assertIn("__init__.py", names)
        for name, text, _ in sources():
            with self.subTest(name=name):
                self.assertRegex(name, r"^[a-z_][a-z0-9_]*\.py$")
                self.assertRegex(text, r"\A[ -~\n]*\Z")
                lines = text.split("\n")
                self.assertLessEqual(len(lines), 400)
                self.assertLessEqual(max(len(line) for line in lines), 120)

    def test_functions_are_small(self):
        for name, _, tree in sources():
            for node in ast.walk(tree):
                if isinstance(node, ast.FunctionDef):
                    self.assertLessEqual(node.end_lineno - node.lineno + 1, 40, (name, node.name))

    def is_plain(self, value, names):
        """Asks for a plain value, or a dict of functions that are defined above it."""
        if isinstance(value, ast.Dict) and value.values and isinstance(value.values[0], ast.Name):
            for key, told in zip(value.keys, value.values):
                ast.literal_eval(key)
                self.assertIn(told.id, names)
        else:
            ast.literal_eval(value)

    def test_module_level(self):
        plain = (ast.ImportFrom, ast.FunctionDef, ast.ClassDef, ast.Assign)
        for name, _, tree in sources():
            self.assertTrue(ast.get_docstring(tree), name)
            names = []
            for node in tree.body[1:]:
                self.assertIsInstance(node, plain, (name, node.lineno))
                if isinstance(node, ast.Assign):
                    self.is_plain(node.value, names)
                    names += [target.id for target in node.targets]
                elif isinstance(node, ast.ImportFrom):
                    names += [told.name for told in node.names]
                else:
                    names.append(node.name)
            self.assertEqual(len(names), len(set(names)), name)


class Imports(unittest.TestCase):
    def test_imports(self):
        defined = {}
        for name, _, tree in sources():
            bound = [node.name for node in tree.body if isinstance(node, (ast.FunctionDef, ast.ClassDef))]
            bound += [node.targets[0].id for node in tree.body if isinstance(node, ast.Assign)]
            defined[f"justthese.{name[:-3]}"] = bound
        for name, _, tree in sources():
            self.assertFalse([node for node in ast.walk(tree) if isinstance(node, ast.Import)], name)
            for node in ast.walk(tree):
                if isinstance(node, ast.ImportFrom):
                    self.assertIn(node, tree.body)
                    there = defined.get(node.module, LIBRARY.get(node.module, "").split())
                    for told in node.names:
                        self.assertIn(told.name, there, (name, node.lineno))
                        self.assertIsNone(told.asname)

    def test_no_two_files_import_each_other(self):
        ahead = {}
        for name, _, tree in sources():
            told = [node.module for node in tree.body if isinstance(node, ast.ImportFrom)]
            ahead[f"justthese.{name[:-3]}"] = [module for module in told if module.startswith("justthese.")]
        done = []
        while len(done) < len(ahead):
            ready = [name for name in ahead if name not in done and set(ahead[name]) <= set(done)]
            self.assertTrue(ready, sorted(set(ahead) - set(done)))
            done += ready

    def test_imports_and_private_functions_are_used(self):
        for name, text, tree in sources():
            for bound, node in bound_names(tree):
                private = isinstance(node, ast.FunctionDef) and re.match("_[a-z]", bound)
                if private or isinstance(node, ast.alias):
                    self.assertGreater(len(re.findall(rf"\b{bound}\b", text)), 1, (name, bound))


class Names(unittest.TestCase):
    def test_names(self):
        for name, _, tree in sources():
            held = [node.name for node in tree.body if isinstance(node, ast.ClassDef)]
            held += [told.name for node in tree.body if isinstance(node, ast.ImportFrom) for told in node.names]
            methods = [node for made in tree.body if isinstance(made, ast.ClassDef) for node in made.body]
            for bound, node in bound_names(tree):
                told = (name, bound, getattr(node, "lineno", None))
                self.assertNotIn(bound, BARRED, told)
                if node in methods:
                    double = bound.startswith("__") and bound[2:-2] in DOUBLE
                    self.assertTrue(double or bound not in OWN_VALUES or bound in METHODS, told)
                else:
                    self.assertFalse(hasattr(builtins, bound), told)
                    self.assertNotRegex(bound, "^__")
                if isinstance(node, (ast.Name, ast.arg)):
                    self.assertNotIn(bound, held, told)

    def test_builtins(self):
        for name, _, tree in sources():
            for node in ast.walk(tree):
                if isinstance(node, ast.Name) and hasattr(builtins, node.id):
                    self.assertIn(node.id, BUILTINS, (name, node.lineno))

    def test_methods_of_builtin_values(self):
        for name, _, tree in sources():
            for node in ast.walk(tree):
                if isinstance(node, ast.Attribute):
                    told = (name, node.lineno, node.attr)
                    self.assertTrue(node.attr not in OWN_VALUES or node.attr in METHODS or node.attr == "__init__", told)
                    if not isinstance(node.ctx, ast.Load):
                        self.assertNotIn(node.attr, OWN_VALUES, told)
                        self.assertIsInstance(node.value, ast.Name, told)


    def test_methods_and_attributes_have_unlike_names(self):
        methods, stored, read = {}, {}, {}
        for name, _, tree in sources():
            for node in ast.walk(tree):
                if isinstance(node, ast.ClassDef):
                    methods.update({told.name: name for told in node.body if isinstance(told, ast.FunctionDef)})
                elif isinstance(node, ast.Attribute):
                    kept = read if isinstance(node.ctx, ast.Load) else stored
                    kept[node.attr] = name
        self.assertEqual({told: methods[told] for told in methods if told in stored}, {})
        unknown = {told: read[told] for told in read if told not in methods and told not in stored}
        self.assertEqual({told: name for told, name in unknown.items() if told not in METHODS}, {})


class Statements(unittest.TestCase):
    def test_barred(self):
        for name, _, tree in sources():
            for node in ast.walk(tree):
                told = (name, getattr(node, "lineno", None))
                self.assertNotIsInstance(node, NODES, told)
                if isinstance(node, ast.Constant):
                    self.assertNotIsInstance(node.value, (float, complex, type(...)), told)
                if isinstance(node, (ast.FunctionDef, ast.ClassDef)):
                    self.assertEqual(node.decorator_list, [], told)
                if isinstance(node, ast.Raise) and node.exc is not None:
                    self.assertIsInstance(node.exc, ast.Call, told)
                if isinstance(node, ast.Compare):
                    for sign, right in zip(node.ops, node.comparators):
                        if isinstance(sign, (ast.Is, ast.IsNot)):
                            plain = isinstance(right, ast.Constant) and right.value in (None, True, False)
                            self.assertTrue(plain or ast.unparse(right).startswith("type("), told)

    def test_generator_expressions(self):
        for name, _, tree in sources():
            for node in ast.walk(tree):
                if isinstance(node, ast.Call) and isinstance(node.func, ast.Name) and node.func.id in LISTED:
                    for value in node.args:
                        self.assertNotIsInstance(value, ast.GeneratorExp, (name, node.lineno))

    def test_sets_are_not_iterated(self):
        for name, _, tree in sources():
            for node in ast.walk(tree):
                if isinstance(node, (ast.For, ast.comprehension)):
                    self.assertNotIsInstance(node.iter, (ast.Set, ast.SetComp), name)
                    self.assertNotRegex(ast.unparse(node.iter), r"^(set|frozenset)\(", name)

    def test_strings(self):
        for name, _, tree in sources():
            for node in ast.walk(tree):
                if isinstance(node, ast.Constant) and isinstance(node.value, str):
                    self.assertNotIn("%", node.value, (name, node.lineno))


if __name__ == "__main__":
    unittest.main()
