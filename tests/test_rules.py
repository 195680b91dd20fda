"""Rules for the files of the package that a script can count or look up."""

import ast
import builtins
import pathlib
import tempfile
import unittest

from helpers import PACKAGE

FILES = sorted(PACKAGE.rglob("*.py"))
BUILTINS = set("""len range enumerate zip min max sum abs sorted reversed int str bool bytes list tuple dict set
    frozenset isinstance ord repr any all divmod pow getattr hasattr setattr iter next map type super print property
    staticmethod classmethod Exception ValueError TypeError KeyError IndexError LookupError ZeroDivisionError
    ArithmeticError OverflowError RuntimeError NotImplementedError AttributeError StopIteration
    NotImplemented object float""".split())
BARRED_NAMES = set("""register mro elements open input law version_info with_traceback add_note attrgetter breakpoint
    compile copyright credits delattr dir eval exec exit gc globals help id importlib license locals methodcaller
    os quit vars sys""".split())
BARRED_WORDS = set("""typing typing_extensions enum Enum IntEnum StrEnum Flag IntFlag Generic Protocol ABC ABCMeta
    namedtuple NamedTuple TypedDict TYPE_CHECKING abstractmethod dataclass overload contextmanager""".split())
LIBRARY = {"__future__", "heapq", "math", "itertools", "collections"}
# What is gone through on the spot, and the builtins of which it may be an argument.
WALKED = {"range", "zip", "enumerate", "reversed"}
VIEWS = {"items", "keys", "values"}
WALKERS = set("list tuple dict sorted sum any all enumerate zip min max bytes len reversed".split())


def faults_of_size(path):
    """L10: the functions, files and lines that are too long, and tabs."""
    text = path.read_text(encoding="utf-8")
    lines = text.split("\n")
    faults = []
    if len(text.splitlines()) > 399:
        faults.append((path.name, "file"))
    faults += [(path.name, at) for at, line in enumerate(lines, 1) if len(line) > 120 or "\t" in line]
    for node in ast.walk(ast.parse(text)):
        if isinstance(node, (ast.FunctionDef, ast.Lambda)) and node.end_lineno - node.lineno + 1 > 40:
            faults.append((path.name, node.lineno))
    return faults


def faults_of_characters(path):
    """L14: the characters that are none from the space to ~, nor line feeds."""
    return [(path.name, byte) for byte in path.read_bytes() if byte != 10 and not 32 <= byte <= 126]


def bound_names(tree):
    for node in ast.walk(tree):
        if isinstance(node, ast.Name) and isinstance(node.ctx, ast.Store):
            yield node.id
        elif isinstance(node, ast.arg):
            yield node.arg
        elif isinstance(node, ast.ClassDef):
            yield node.name
        elif isinstance(node, ast.alias):
            yield node.asname or node.name
    methods = {id(part) for node in ast.walk(tree) if isinstance(node, ast.ClassDef) for part in node.body}
    for node in ast.walk(tree):
        if isinstance(node, ast.FunctionDef) and id(node) not in methods:
            yield node.name


def docstrings(tree):
    return {id(node.body[0].value) for node in ast.walk(tree)
            if isinstance(node, (ast.Module, ast.FunctionDef, ast.ClassDef)) and ast.get_docstring(node) is not None}


def names_of(tree):
    """Names, parameters, attributes, and what functions and classes are called."""
    for node in ast.walk(tree):
        if isinstance(node, ast.Name):
            yield node.id
        elif isinstance(node, ast.Attribute):
            yield node.attr
        elif isinstance(node, (ast.FunctionDef, ast.ClassDef)):
            yield node.name
        elif isinstance(node, (ast.arg, ast.keyword)) and node.arg is not None:
            yield node.arg


def words_of(tree):
    """Names, and the words of strings that are no docstrings."""
    passed_over = docstrings(tree)
    yield from names_of(tree)
    for node in ast.walk(tree):
        if isinstance(node, ast.Constant) and isinstance(node.value, str) and id(node) not in passed_over:
            yield from node.value.split()


def is_walked(node):
    """Whether a node is a range, zip, enumerate or reversed, or a view of a dict."""
    if not isinstance(node, ast.Call):
        return False
    if isinstance(node.func, ast.Attribute):
        return node.func.attr in VIEWS and not node.args and not node.keywords
    return isinstance(node.func, ast.Name) and node.func.id in WALKED


def faults_of_arguments(text):
    """L23: the calls, by line and column, that are passed what is gone through on the spot and are none of WALKERS.

    It is also told if a name of the same function keeps it.
    """
    tree = ast.parse(text)
    faults = set()
    for scope in [tree] + [node for node in ast.walk(tree) if isinstance(node, ast.FunctionDef)]:
        kept = {target.id for node in ast.walk(scope) if isinstance(node, ast.Assign) and is_walked(node.value)
                for target in node.targets if isinstance(target, ast.Name) and scope is not tree}
        for call in ast.walk(scope):
            if not isinstance(call, ast.Call) or (isinstance(call.func, ast.Name) and call.func.id in WALKERS):
                continue
            if isinstance(call.func, ast.Attribute) and call.func.attr == "join":
                continue
            given = [part.value if isinstance(part, ast.Starred) else part for part in call.args]
            given += [keyword.value for keyword in call.keywords]
            if any(is_walked(part) or (isinstance(part, ast.Name) and part.id in kept) for part in given):
                faults.add((call.lineno, call.col_offset))
    return sorted(faults)


class Counted(unittest.TestCase):
    def test_there_are_files(self):
        self.assertIn(PACKAGE / "__init__.py", FILES)

    def test_sizes(self):
        for path in FILES:
            self.assertEqual(faults_of_size(path), [])

    def test_characters(self):
        for path in FILES:
            self.assertEqual(faults_of_characters(path), [])

    def test_the_counting_itself(self):
        with tempfile.TemporaryDirectory() as folder:
            path = pathlib.Path(folder) / "probe.py"
            for text, faults in (("def f():\n" + "    f()\n" * 39, 0), ("def f():\n" + "    f()\n" * 40, 1),
                                 ("x = 1\n" * 399, 0), ("x = 1\n" * 400, 1), ("#" * 120, 0), ("#" * 121, 1),
                                 ("#\t", 1)):
                path.write_text(text, encoding="utf-8")
                self.assertEqual(len(faults_of_size(path)), faults, text[:20])
            for text, faults in (("# ~ !\n", 0), ("#\t", 1), ("#\r\n", 1), ("# \x7f", 1), ("# \u00e9", 2)):
                path.write_bytes(text.encode("utf-8"))
                self.assertEqual(len(faults_of_characters(path)), faults, repr(text))

    def test_the_folder_holds_nothing_else(self):
        for path in PACKAGE.rglob("*"):
            if "__pycache__" not in path.parts:
                self.assertTrue(path.suffix == ".py" and path.name == path.name.lower(), path)


class Arguments(unittest.TestCase):
    def test_nothing_walked_is_passed_on(self):
        for path in FILES:
            self.assertEqual(faults_of_arguments(path.read_text(encoding="utf-8")), [], path.name)

    def test_the_looking_itself(self):
        wrong = ("bits_of({})", "found = [bits_of({})]", "self.told(1, {})", "box.rows[0]({})", "Box(rows={})", "told(*{})",
                 "seen.append({})", "xs.extend({})", "k in set({})", "for x in steps({}): pass", "f = lambda: told({})",
                 "if a:\n    rows = [told(k, {}) for k in xs]", "def f():\n    rows = {}\n    told(rows)",
                 "def f():\n    if a:\n        rows = {}\n        return self.told(1, rows=rows)",
                 "class Box:\n    def f(self):\n        return told({})")
        right = ("for x in {}: pass", "xs = [x for x in {}]", "xs = list({})", "told(list({}))", "told(sorted({}))",
                 "told(max({}))", "told([x for x in {}])", "''.join({})", "told(sum(x for x in {}))",
                 "for x, y in zip({}, ys): pass", "def f():\n    rows = {}\n    told(list(rows))",
                 "def f():\n    rows = {}\n    return list(rows)\n\ndef g(rows):\n    told(rows)")
        for walked in ("range(3)", "range(len(xs) + 1)", "zip(xs, ys)", "enumerate(xs)", "reversed(xs)", "d.items()",
                       "self.rows.keys()", "d[k].values()"):
            for text in wrong:
                self.assertEqual(len(faults_of_arguments(text.format(walked))), 1, (text, walked))
            for text in right:
                self.assertEqual(faults_of_arguments(text.format(walked)), [], (text, walked))
        self.assertEqual(faults_of_arguments("told(d.items(1), xs, items(), values)"), [])


class LookedUp(unittest.TestCase):
    def trees(self):
        return [(path.name, ast.parse(path.read_text(encoding="utf-8"))) for path in FILES]

    def test_imports(self):
        for name, tree in self.trees():
            for node in ast.walk(tree):
                if isinstance(node, (ast.Import, ast.ImportFrom)):
                    self.assertIsInstance(node, ast.ImportFrom, name)
                    self.assertIn(node, tree.body, name)
                    self.assertEqual(node.level, 0, name)
                    self.assertTrue(node.module.startswith("onescore.") or node.module in LIBRARY, name)
                    self.assertFalse([alias for alias in node.names if alias.asname or alias.name == "*"], name)

    def test_builtins(self):
        everything = set(dir(builtins))
        for name, tree in self.trees():
            own = set(bound_names(tree))
            self.assertEqual(own & everything, set(), name)
            used = {node.id for node in ast.walk(tree) if isinstance(node, ast.Name)}
            self.assertEqual((used & everything) - own - BUILTINS, set(), name)

    def test_barred_words(self):
        for name, tree in self.trees():
            self.assertEqual(set(names_of(tree)) & (BARRED_NAMES | BARRED_WORDS), set(), name)
            self.assertEqual(set(words_of(tree)) & BARRED_WORDS, set(), name)

    def test_no_percent_sign_in_strings_and_no_floats(self):
        for name, tree in self.trees():
            for node in ast.walk(tree):
                if isinstance(node, ast.Constant):
                    self.assertNotIsInstance(node.value, (float, complex), name)
                    self.assertFalse(isinstance(node.value, str) and "%" in node.value, name)
                self.assertFalse(isinstance(node, ast.BinOp) and isinstance(node.op, ast.Div), name)

    def test_no_names_with_two_underscores_in_front(self):
        allowed = {"__init__", "__eq__", "__repr__", "__str__", "__len__"}
        for name, tree in self.trees():
            self.assertEqual({word for word in words_of(tree) if word.startswith("__")} - allowed, set(), name)


if __name__ == "__main__":
    unittest.main()
