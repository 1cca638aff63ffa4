"""The form of the package's files: the rules of the language that can be seen in the text of a file."""

import ast
import builtins
import re
import warnings
from pathlib import Path
from unittest import TestCase

FOLDER = Path(__file__).resolve().parent.parent / "pairfloors"
FILES = sorted(FOLDER.glob("*.py"))
BUILTINS = """len range enumerate zip min max sum abs sorted reversed int str bool list tuple dict set isinstance ord repr any
all divmod map iter next Exception ValueError TypeError KeyError IndexError LookupError ZeroDivisionError ArithmeticError
OverflowError RuntimeError NotImplementedError AttributeError StopIteration NotImplemented""".split()
LIBRARY = {
    "heapq": ("heappush", "heappop", "heapify", "heapreplace", "heappushpop"),
    "math": ("gcd", "lcm", "isqrt", "comb", "perm", "factorial"),
    "itertools": ("product", "combinations", "permutations"),
}
WORDS = """type typing enum Enum Generic Protocol ABC namedtuple NamedTuple dataclass overload contextmanager register mro
elements open input law eval exec id vars dir getattr setattr hasattr globals locals super compile""".split()
METHODS = """append clear copy count endswith extend find get index insert isalnum isalpha isdigit islower isspace isupper
items join keys ljust lower lstrip partition pop remove replace reverse rfind rjust rpartition rsplit rstrip setdefault
split splitlines startswith strip update upper values zfill bit_length sort add discard""".split()


def tree_of(path):
    return ast.parse(path.read_text())


def functions(tree):
    return [node for node in ast.walk(tree) if isinstance(node, (ast.FunctionDef, ast.Lambda))]


def defined(tree):
    """The names that a file binds at module level, but for imports."""
    names = []
    for node in tree.body:
        if isinstance(node, (ast.FunctionDef, ast.ClassDef)):
            names.append(node.name)
        if isinstance(node, ast.Assign):
            names += [target.id for target in node.targets]
    return names


def bound(tree):
    """The names that functions bind: parameters and local variables."""
    names = {node.arg for node in ast.walk(tree) if isinstance(node, ast.arg)}
    inside = [inner for node in functions(tree) for inner in ast.walk(node)]
    return names | {node.id for node in inside if isinstance(node, ast.Name) and isinstance(node.ctx, ast.Store)}


def imports(tree):
    return [node for node in ast.walk(tree) if isinstance(node, (ast.Import, ast.ImportFrom))]


def own_imports(tree):
    """The files of the package from which a file imports, in the order of its imports."""
    return [node.module.split(".")[1] for node in imports(tree) if node.module not in LIBRARY]


def importable(module):
    """The names that may be imported from a module of the package or the library."""
    if module in LIBRARY:
        return LIBRARY[module]
    return defined(tree_of(FOLDER / (module.removeprefix("pairfloors.") + ".py")))


def own_methods():
    classes = [node for path in FILES for node in tree_of(path).body if isinstance(node, ast.ClassDef)]
    return {node.name for held in classes for node in held.body if isinstance(node, ast.FunctionDef)}


def is_written_exponent(node):
    """Whether the right side of a power is a number from 0 to 64 that is written out."""
    return isinstance(node, ast.Constant) and type(node.value) is int and 0 <= node.value <= 64


class Form(TestCase):
    def test_the_folder_holds_plain_files_alone(self):
        found = sorted(path.name for path in FOLDER.iterdir() if path.name != "__pycache__")
        self.assertEqual(found, [path.name for path in FILES])
        self.assertIn("__init__.py", found)
        for name in found:
            self.assertRegex(name, r"^[a-z_][a-z0-9_]*\.py$")

    def test_sizes_and_characters(self):
        for path in FILES:
            text = path.read_text(encoding="utf-8")
            self.assertTrue(all(sign == "\n" or " " <= sign <= "~" for sign in text), path)
            rows = text.splitlines()
            self.assertLess(len(rows), 400, path)
            self.assertLessEqual(max(len(row) for row in rows), 120, path)
            for node in functions(tree_of(path)):
                self.assertLessEqual(node.end_lineno - node.lineno + 1, 40, (path, node.lineno))

    def test_files_hold_definitions_alone(self):
        for path in FILES:
            body = tree_of(path).body
            self.assertIsInstance(body[0], ast.Expr, path)
            for node in body[1:]:
                self.assertIsInstance(node, (ast.ImportFrom, ast.FunctionDef, ast.ClassDef, ast.Assign), path)

    def test_imports(self):
        for path in FILES:
            for node in imports(tree_of(path)):
                self.assertIsInstance(node, ast.ImportFrom, path)
                self.assertEqual((node.level, node.col_offset), (0, 0), path)
                names = importable(node.module)
                for alias in node.names:
                    self.assertIsNone(alias.asname)
                    self.assertIn(alias.name, names, path)

    def test_no_files_import_in_a_circle(self):
        left = {path.stem: set(own_imports(tree_of(path))) for path in FILES}
        while left:
            done = [name for name, needs in left.items() if not needs & set(left)]
            self.assertTrue(done, left)
            for name in done:
                del left[name]

    def test_names(self):
        for path in FILES:
            tree = tree_of(path)
            taken = [alias.name for node in imports(tree) for alias in node.names]
            taken += [node.name for node in ast.walk(tree) if isinstance(node, ast.ClassDef)]
            every = defined(tree) + [alias.name for node in imports(tree) for alias in node.names]
            self.assertEqual(len(every), len(set(every)), path)
            self.assertFalse(bound(tree) & set(taken), path)
            self.assertFalse((bound(tree) | set(every)) & set(dir(builtins)), path)
            for name in bound(tree) | set(every):
                self.assertRegex(name, r"^(_|_?[A-Za-z][A-Za-z0-9_]*)$", path)
                self.assertFalse(name.startswith(("_wall", "_lay_", "_record")), path)

    def test_builtins_and_methods(self):
        for path in FILES:
            tree = tree_of(path)
            for node in ast.walk(tree):
                if isinstance(node, ast.Name) and node.id in dir(builtins):
                    self.assertIn(node.id, BUILTINS, path)
            for word in WORDS:
                names = [node.id for node in ast.walk(tree) if isinstance(node, ast.Name)]
                names += [node.attr for node in ast.walk(tree) if isinstance(node, ast.Attribute)]
                self.assertNotIn(word, names, path)
            strange = {node.func.attr for node in ast.walk(tree)
                       if isinstance(node, ast.Call) and isinstance(node.func, ast.Attribute)} - set(METHODS)
            self.assertFalse(strange - own_methods(), path)
            self.assertIsNone(re.search("_wall", path.read_text()), path)

    def test_powers_have_written_exponents(self):
        for path in FILES:
            for node in ast.walk(tree_of(path)):
                if isinstance(node, (ast.BinOp, ast.AugAssign)) and isinstance(node.op, ast.Pow):
                    self.assertTrue(is_written_exponent(node.right if isinstance(node, ast.BinOp) else node.value), (path, node.lineno))

    def test_written_exponents(self):
        for word, right in (("0", True), ("64", True), ("65", False), ("-1", False), ("n", False), ("k - 1", False), ("True", False)):
            self.assertIs(is_written_exponent(ast.parse(word, mode="eval").body), right, word)

    def test_numbers_and_strings(self):
        for path in FILES:
            text = path.read_text()
            self.assertLessEqual(set(re.findall(r"\\(.)", text, re.S)), set("nt\\'\""), path)
            self.assertIsNone(re.search("[0-9_]{901}", text), path)
            for node in ast.walk(tree_of(path)):
                if isinstance(node, ast.Constant) and isinstance(node.value, str):
                    self.assertNotIn("%", node.value, path)
                    self.assertFalse(node.value.endswith(("._", ".__")), path)
                    self.assertIsNone(re.search("^__.*__$", node.value, re.S), path)

    def test_python_warns_of_nothing(self):
        for path in FILES:
            with warnings.catch_warnings():
                warnings.simplefilter("error")
                compile(path.read_text(), str(path), "exec")

    def test_what_is_not_used(self):
        barred = (ast.AsyncFunctionDef, ast.Await, ast.Global, ast.Div)
        for path in FILES:
            for node in ast.walk(tree_of(path)):
                self.assertNotIsInstance(node, barred, path)
                if isinstance(node, ast.Constant):
                    self.assertNotIsInstance(node.value, (float, complex), path)
