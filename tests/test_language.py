"""The rules of LANGUAGE.md that a look at the code of the package can decide."""

import ast
import builtins
import unittest
from pathlib import Path

PACKAGE = Path(__file__).resolve().parent.parent / "handedcopies"
FILES = {path.stem: path for path in sorted(PACKAGE.glob("*.py"))}
TREES = {name: ast.parse(path.read_text(encoding="utf-8")) for name, path in FILES.items()}

BUILTINS = set("""len range enumerate zip min max sum abs sorted reversed int str bool bytes list tuple dict set
    isinstance ord repr any all divmod pow iter next type Exception ValueError TypeError KeyError IndexError LookupError
    RuntimeError NotImplemented super property staticmethod classmethod""".split())
METHODS = set("""append clear copy count endswith extend find get index insert isalnum isalpha isdigit islower isspace
    isupper items join keys ljust lower lstrip partition pop remove replace reverse rfind rjust rpartition rsplit rstrip
    setdefault split splitlines startswith strip update upper values zfill bit_length removeprefix removesuffix
    add discard appendleft popleft""".split())
LAID_DOWN = set("""__init__ __eq__ __repr__ __str__ __len__ __enter__ __exit__ __call__ __iter__ __bool__ __or__ __and__
    __contains__ __getitem__ __setitem__ __lt__""".split())
BARRED = set("register mro elements open input law version_info with_traceback add_note".split())
BARRED_WORDS = ("typing", "Enum", "Generic", "Protocol", "namedtuple", "dataclass", "overload", "metaclass", "_wall")


def nodes(*kinds):
    """All nodes of these kinds, with the name of their file."""
    return [(name, node) for name, tree in TREES.items() for node in ast.walk(tree) if isinstance(node, kinds)]


def path_line(name, lineno):
    """A line of a file."""
    return FILES[name].read_text(encoding="utf-8").split("\n")[lineno - 1]


def bound_names(node):
    """The names that a node binds."""
    if isinstance(node, ast.Name):
        return [node.id] if isinstance(node.ctx, ast.Store) else []
    if isinstance(node, ast.arg):
        return [node.arg]
    return [node.name] if isinstance(node, (ast.FunctionDef, ast.ClassDef)) else []


class LanguageTests(unittest.TestCase):
    def test_files(self):
        inside = [path.name for path in PACKAGE.iterdir() if path.name != "__pycache__"]
        self.assertEqual(sorted(inside), sorted(path.name for path in FILES.values()))
        for path in FILES.values():
            lines = path.read_text(encoding="ascii").split("\n")
            self.assertLess(len(lines), 400, path)
            for line in lines:
                self.assertTrue(len(line) <= 120 and all(" " <= sign <= "~" for sign in line), (path, line))

    def test_functions_are_small(self):
        for name, node in nodes(ast.FunctionDef):
            self.assertLessEqual(node.end_lineno - node.lineno + 1, 40, (name, node.name))

    def test_module_level(self):
        allowed = (ast.ImportFrom, ast.FunctionDef, ast.ClassDef, ast.Assign)
        for name, tree in TREES.items():
            self.assertIsNotNone(ast.get_docstring(tree), name)
            for node in tree.body[1:]:
                self.assertIsInstance(node, allowed, (name, node.lineno))
                if isinstance(node, ast.Assign):
                    self.assertEqual(len(node.targets), 1)
                    ast.literal_eval(node.value)

    def test_imports_name_the_file_that_defines(self):
        above = {name: [] for name in FILES}
        for name, node in nodes(ast.Import, ast.ImportFrom):
            self.assertIsInstance(node, ast.ImportFrom, name)
            package, _, source = node.module.partition(".")
            self.assertEqual((package, node.level), ("handedcopies", 0))
            defined = [part for child in TREES[source].body for part in (
                [target.id for target in child.targets] if isinstance(child, ast.Assign) else bound_names(child))]
            for alias in node.names:
                self.assertIn(alias.name, defined, name)
            above[name].append(source)
        while above:
            ready = [name for name, sources in above.items() if not any(source in above for source in sources)]
            self.assertTrue(ready, "files import from each other")
            above = {name: sources for name, sources in above.items() if name not in ready}

    def test_no_barred_constructs(self):
        barred = (ast.GeneratorExp, ast.Set, ast.Global, ast.AsyncFunctionDef, ast.Div, ast.Await, ast.AnnAssign)
        self.assertEqual([(name, node.lineno) for name, node in nodes(*barred)], [])
        for name, node in nodes(ast.Constant):
            self.assertNotIsInstance(node.value, float, name)
        for name, node in nodes(ast.FunctionDef, ast.ClassDef):
            for decorator in node.decorator_list:
                self.assertIn(ast.unparse(decorator), ("property", "classmethod", "staticmethod"), name)

    def test_names(self):
        for name, node in nodes(ast.Name, ast.arg, ast.FunctionDef, ast.ClassDef):
            for bound in bound_names(node):
                self.assertNotIn(bound, vars(builtins), name)
                self.assertNotIn(bound, BARRED, name)
                if bound.startswith("__"):
                    self.assertIn(bound, LAID_DOWN, name)
        for name, node in nodes(ast.Attribute):
            self.assertNotIn(node.attr, BARRED, name)
        for name, node in nodes(ast.Name):
            if node.id in vars(builtins):
                self.assertIn(node.id, BUILTINS, (name, node.lineno))

    def test_names_in_functions(self):
        for name, tree in TREES.items():
            taken = {alias.name for node in tree.body if isinstance(node, ast.ImportFrom) for alias in node.names}
            taken |= {node.name for node in tree.body if isinstance(node, (ast.ClassDef, ast.FunctionDef))}
            for function in [node for node in ast.walk(tree) if isinstance(node, (ast.FunctionDef, ast.Lambda))]:
                for node in ast.walk(function):
                    if isinstance(node, (ast.Name, ast.arg)):
                        for bound in bound_names(node):
                            self.assertNotIn(bound, taken, (name, node.lineno))

    def test_attributes_have_no_names_of_methods_of_builtin_values(self):
        barred = set("""items keys values pop update append clear extend insert remove reverse setdefault sort args
            encode decode hex fromhex format""".split())
        for name, node in nodes(ast.Attribute):
            if isinstance(node.ctx, ast.Store):
                self.assertNotIn(node.attr, barred, (name, node.lineno))
        for name, node in nodes(ast.Name, ast.arg, ast.FunctionDef, ast.Attribute):
            bound = getattr(node, "id", getattr(node, "arg", getattr(node, "name", getattr(node, "attr", ""))))
            self.assertNotIn(bound.rstrip("_0123456789"), (
                "_cold", "_tuplegetter", "_outside", "_record", "_written_out", "_member_names"), (name, node.lineno))

    def test_type_and_is(self):
        compared = []
        for name, node in nodes(ast.Compare):
            for sign, right in zip(node.ops, node.comparators):
                if not isinstance(sign, (ast.Is, ast.IsNot)):
                    continue
                if isinstance(right, ast.Constant):
                    self.assertIn(right.value, (None, True, False), (name, node.lineno))
                else:
                    self.assertRegex(ast.unparse(node), r"^type\(\w+\) is (not )?int$", (name, node.lineno))
                    compared.append(node.left.func)
        for name, node in nodes(ast.Name):
            if node.id == "type":
                self.assertIn(node, compared, (name, node.lineno))

    def test_generators_are_iterated_at_once(self):
        made = {node.name for _, node in nodes(ast.FunctionDef) if any(
            isinstance(part, (ast.Yield, ast.YieldFrom)) for part in ast.walk(node))}
        self.assertEqual(made, {"places", "labels_of"})
        taken = [part.iter for _, part in nodes(ast.For, ast.comprehension)]
        for name, node in nodes(ast.Call):
            if ast.unparse(node.func).rpartition(".")[2] in made:
                self.assertIn(node, taken, (name, node.lineno))
        for name, node in nodes(ast.Name, ast.arg, ast.Attribute):
            if isinstance(node, ast.arg) or isinstance(node.ctx, ast.Store):
                self.assertNotIn(getattr(node, "id", getattr(node, "arg", getattr(node, "attr", None))), made, name)

    def test_reversed_and_sets(self):
        for name, node in nodes(ast.Call):
            text = ast.unparse(node)
            if text.startswith("reversed("):
                self.assertRegex(text, r"^reversed\((list|tuple|sorted|range)\(")
            if text.startswith("set("):
                self.assertRegex(path_line(name, node.lineno), r"(sorted|len)\(set\(")

    def test_stars_stand_before_names(self):
        for name, node in nodes(ast.Call):
            starred = [part.value for part in node.args if isinstance(part, ast.Starred)]
            starred += [part.value for part in node.keywords if part.arg is None]
            self.assertLess(len(starred), 2, (name, node.lineno))
            for part in starred:
                self.assertRegex(ast.unparse(part), r"^\w+(\.\w+)?$", (name, node.lineno))

    def test_methods_that_are_called(self):
        own = {node.name for _, node in nodes(ast.FunctionDef)}
        for name, node in nodes(ast.Call):
            if isinstance(node.func, ast.Attribute):
                self.assertIn(node.func.attr, METHODS | own, (name, node.lineno))

    def test_attributes_and_methods_have_names_of_their_own(self):
        defined = {child.name for _, node in nodes(ast.ClassDef) for child in node.body
                   if isinstance(child, ast.FunctionDef)}
        for name, node in nodes(ast.Attribute):
            if isinstance(node.ctx, ast.Store):
                self.assertNotIn(node.attr, defined, (name, node.lineno))
                self.assertIsInstance(node.value, ast.Name, (name, node.lineno))

    def test_texts(self):
        for path in FILES.values():
            for word in BARRED_WORDS + ("%", "\\x", "\\u", "\\r"):
                self.assertNotIn(word, path.read_text(encoding="utf-8"), path)

    def test_own_forms(self):
        for name, node in nodes(ast.FunctionDef):
            last = ast.unparse(node.body[-1])
            with self.subTest(file=name, line=node.lineno):
                if node.name == "__len__":
                    self.assertRegex(last, r"^return (len\(.*\)|\d+)$")
                if node.name in ("__str__", "__repr__"):
                    self.assertRegex(last, r"^return (f'|str\(|repr\()")
                if node.name == "__eq__":
                    self.assertRegex(last, r"^return isinstance\(other, \w+\)( and \(?self\.(\w+) == other\.\2\)?)+$")
                if node.name == "__iter__":
                    self.assertRegex(last, r"^return iter\(self\.\w+\)$")
