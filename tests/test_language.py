"""The package keeps to its subset of Python: the rules that a look at the syntax can hold it to."""

import ast
import builtins
import unittest
from pathlib import Path

PACKAGE = Path(__file__).resolve().parent.parent / "meshcore"

LIBRARY = {
    "heapq": ("heappush", "heappop", "heapify", "heapreplace", "heappushpop"),
    "math": ("gcd", "lcm", "isqrt", "comb", "perm", "factorial"),
    "itertools": ("product", "combinations", "permutations"),
}
BUILTINS = (
    "len range enumerate zip min max sum abs sorted reversed int str bool bytes list tuple dict set isinstance "
    "ord repr any all divmod Exception ValueError TypeError KeyError IndexError LookupError ZeroDivisionError "
    "ArithmeticError OverflowError RuntimeError NotImplementedError super"
).split()
METHODS = (
    "append clear copy count endswith extend find get index insert isalnum isalpha isdigit islower isspace "
    "isupper items join keys ljust lower lstrip partition pop remove replace reverse rfind rjust rpartition "
    "rsplit rstrip setdefault split splitlines startswith strip update upper values zfill bit_length"
).split()
NOWHERE = "register mro elements open input law version_info with_traceback add_note".split()
NOT_AS_NAMES = (
    "attrgetter breakpoint builtins compile copyright credits delattr dir eval exec exit gc getattr globals "
    "hasattr help id importlib license locals methodcaller os quit setattr sys type vars"
).split()
NODES = (
    "Module FunctionDef ClassDef Return Assign AugAssign For While If Raise Expr Pass Break Continue Import "
    "ImportFrom alias arguments arg keyword Name Load Store Constant Attribute Subscript Slice Tuple List Dict "
    "Call BinOp UnaryOp BoolOp Compare IfExp ListComp DictComp comprehension JoinedStr FormattedValue "
    "Add Sub Mult FloorDiv Mod Pow USub Not And Or Eq NotEq Lt LtE Gt GtE Is IsNot In NotIn Lambda Starred"
).split()


def files():
    return sorted(PACKAGE.glob("*.py"))


def trees():
    return [(path, ast.parse(path.read_text(), str(path))) for path in files()]


def nodes(kind):
    return [(path, node) for path, tree in trees() for node in ast.walk(tree) if isinstance(node, kind)]


def bound_names(tree):
    """All names that a file binds: variables, parameters, functions, classes."""
    found = []
    for node in ast.walk(tree):
        if isinstance(node, ast.Name) and isinstance(node.ctx, ast.Store):
            found.append(node.id)
        if isinstance(node, ast.arg):
            found.append(node.arg)
        if isinstance(node, (ast.FunctionDef, ast.ClassDef)):
            found.append(node.name)
    return found


def imported_names(tree):
    return [row.name for node in tree.body if isinstance(node, ast.ImportFrom) for row in node.names]


class Language(unittest.TestCase):

    def test_files(self):
        self.assertTrue((PACKAGE / "__init__.py").exists())
        for path in PACKAGE.iterdir():
            if path.name != "__pycache__":
                self.assertRegex(path.name, r"^[a-z0-9_]+\.py$")
        for path in files():
            text = path.read_text()
            self.assertLessEqual(len(text.splitlines()), 399, path)
            for line in text.splitlines():
                self.assertLessEqual(len(line), 120, line)
            for letter in set(text):
                self.assertTrue(letter == "\n" or " " <= letter <= "~", (path, letter))

    def test_sizes_of_functions(self):
        for path, node in nodes(ast.FunctionDef):
            self.assertLessEqual(node.end_lineno - node.lineno + 1, 40, (path, node.name))
            self.assertEqual(node.decorator_list, [])

    def test_syntax(self):
        for path, node in nodes(ast.AST):
            self.assertIn(node.__class__.__name__, NODES, (path, getattr(node, "lineno", None)))

    def test_imports(self):
        own = {"meshcore." + path.stem: tree for path, tree in trees()}
        for path, tree in trees():
            rest = False
            for node in tree.body:
                if isinstance(node, ast.Expr):
                    continue
                self.assertNotIsInstance(node, ast.Import)
                if not isinstance(node, ast.ImportFrom):
                    rest = True
                    continue
                self.assertFalse(rest, path)
                self.assertEqual(node.level, 0)
                for row in node.names:
                    self.assertIsNone(row.asname)
                    if node.module in LIBRARY:
                        self.assertIn(row.name, LIBRARY[node.module])
                    else:
                        there = [one.name for one in own[node.module].body if hasattr(one, "name")]
                        there += [one.targets[0].id for one in own[node.module].body if isinstance(one, ast.Assign)]
                        self.assertIn(row.name, there, path)

    def test_no_ring_of_imports(self):
        goes = {}
        for path, tree in trees():
            told = [node.module for node in tree.body if isinstance(node, ast.ImportFrom)]
            goes["meshcore." + path.stem] = [name for name in told if name not in LIBRARY]
        while goes:
            done = [name for name in goes if not [one for one in goes[name] if one in goes]]
            self.assertTrue(done, goes)
            for name in done:
                del goes[name]

    def test_imports_are_used_and_not_hidden(self):
        for path, tree in trees():
            read = [node.id for node in ast.walk(tree) if isinstance(node, ast.Name)]
            classes = [node.name for node in tree.body if isinstance(node, ast.ClassDef)]
            for name in imported_names(tree):
                self.assertIn(name, read, path)
            local = bound_names(ast.Module([node for node in tree.body if not isinstance(node, ast.ClassDef)], []))
            for name in local:
                self.assertNotIn(name, imported_names(tree) + classes, path)

    def test_module_level(self):
        for path, tree in trees():
            names = imported_names(tree)
            for node in tree.body:
                self.assertIsInstance(node, (ast.Expr, ast.ImportFrom, ast.FunctionDef, ast.ClassDef, ast.Assign))
                if isinstance(node, ast.Expr):
                    self.assertIs(node, tree.body[0])
                if isinstance(node, ast.Assign):
                    ast.literal_eval(node.value)
                    names.append(node.targets[0].id)
                if isinstance(node, (ast.FunctionDef, ast.ClassDef)):
                    names.append(node.name)
            self.assertEqual(len(names), len(set(names)), path)

    def test_names(self):
        for path, tree in trees():
            for name in bound_names(tree):
                self.assertRegex(name, r"^([A-Za-z][A-Za-z0-9_]*|_|__init__)$")
                self.assertNotIn(name, dir(builtins), path)
                self.assertNotIn(name, NOWHERE + NOT_AS_NAMES, path)
            for node in ast.walk(tree):
                if isinstance(node, ast.Name) and node.id == "_":
                    self.assertIsInstance(node.ctx, ast.Store)

    def test_builtins(self):
        for path, tree in trees():
            known = bound_names(tree) + imported_names(tree)
            for node in ast.walk(tree):
                if isinstance(node, ast.Name) and node.id not in known:
                    self.assertIn(node.id, BUILTINS, path)

    def test_methods(self):
        for path, node in nodes(ast.Call):
            if isinstance(node.func, ast.Attribute) and node.func.attr != "__init__":
                self.assertIn(node.func.attr, METHODS, (path, node.lineno))

    def test_products(self):
        for path, tree in trees():
            library = [name for name in imported_names(tree) if name in LIBRARY["itertools"]]
            spots = []
            for node in ast.walk(tree):
                if isinstance(node, (ast.For, ast.comprehension)):
                    spots.append(node.iter)
                if isinstance(node, ast.Call) and isinstance(node.func, ast.Name) and node.func.id == "list":
                    spots.extend(node.args)
            for node in ast.walk(tree):
                if isinstance(node, ast.Call) and isinstance(node.func, ast.Name) and node.func.id in library:
                    self.assertIn(node, spots, (path, node.lineno))

    def test_iterated_at_once(self):
        for path, tree in trees():
            spots = []
            for node in ast.walk(tree):
                if isinstance(node, (ast.For, ast.comprehension)):
                    spots.append(node.iter)
                if isinstance(node, ast.Call) and isinstance(node.func, ast.Name):
                    spots.extend(node.args)
            for node in ast.walk(tree):
                if isinstance(node, ast.Call) and isinstance(node.func, ast.Name):
                    if node.func.id in ("zip", "enumerate", "reversed", "range"):
                        self.assertIn(node, spots, (path, node.lineno))

    def test_stars(self):
        calls = [node for _, node in nodes(ast.Call) if isinstance(node.func, ast.Name) and node.func.id == "zip"]
        allowed = [one for node in calls for one in node.args]
        for path, node in nodes(ast.Starred):
            self.assertIn(ast.dump(node), [ast.dump(one) for one in allowed], (path, node.lineno))
            self.assertIsInstance(node.value, ast.Name)

    def test_plain_counts_of_combinations(self):
        for path, tree in trees():
            for function in [node for node in ast.walk(tree) if isinstance(node, ast.FunctionDef)]:
                ranges = [node.target.id for node in ast.walk(function) if isinstance(node, ast.For)
                          and isinstance(node.iter, ast.Call) and ast.unparse(node.iter.func) == "range"]
                plain = "|".join([r"\d+", r"int\(\w+\)", r"len\(.*\)", r"len\(.*\) \+ \d+"] + ranges)
                for node in ast.walk(function):
                    if isinstance(node, ast.Call) and ast.unparse(node.func) in ("combinations", "permutations"):
                        for one in node.args[1:]:
                            self.assertRegex(ast.unparse(one), "^(" + plain + ")$", path)

    def test_is(self):
        for path, node in nodes(ast.Compare):
            for sign, there in zip(node.ops, node.comparators):
                if isinstance(sign, (ast.Is, ast.IsNot)):
                    self.assertIsInstance(there, ast.Constant, (path, node.lineno))
                    self.assertIn(repr(there.value), ("None", "True", "False"))

    def test_constants(self):
        for path, node in nodes(ast.Constant):
            self.assertNotIsInstance(node.value, (float, complex, bytes), (path, node.lineno))
            if isinstance(node.value, str):
                self.assertNotIn("%", node.value)
        for path, node in nodes(ast.BinOp):
            if isinstance(node.op, ast.Pow):
                self.assertIsInstance(node.right, ast.Constant)

    def test_errors_are_created_on_the_spot(self):
        for path, node in nodes(ast.Raise):
            self.assertIsInstance(node.exc, ast.Call, (path, node.lineno))
            self.assertIsInstance(node.exc.func, ast.Name)
