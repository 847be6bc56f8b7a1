"""The files of the package against those rules of their subset of Python that a reader of the code can check.

The rules' numbers stand in what is found (L1 to L28); not every rule is checked here.
"""
import ast
import os
import re
import unittest

TOP = os.path.dirname(os.path.dirname(os.path.abspath(__file__)))
PACKAGE = "hushedasks"

BUILTINS = set(
    "len range enumerate zip min max sum abs sorted reversed int str bool bytes list tuple dict set frozenset "
    "isinstance ord repr any all divmod pow getattr hasattr setattr iter next map Exception ValueError TypeError "
    "KeyError IndexError LookupError ZeroDivisionError ArithmeticError OverflowError RuntimeError "
    "NotImplementedError AttributeError StopIteration NotImplemented".split()
)
ALL_BUILTINS = set(dir(__builtins__)) if not isinstance(__builtins__, dict) else set(__builtins__)
# Neither product, combinations nor permutations: the package is to have an object that is iterated over and measured.
LIBRARY = {
    "heapq": {"heappush", "heappop", "heapify", "heapreplace", "heappushpop"},
    "math": {"gcd", "lcm", "isqrt", "comb", "perm", "factorial"},
    "itertools": {"chain", "accumulate", "pairwise", "islice", "zip_longest"},
    "collections": {"defaultdict"},
}
METHODS = set(
    "append clear copy count endswith extend find get index insert isalnum isalpha isdigit islower isspace isupper "
    "items join keys ljust lower lstrip partition pop remove replace reverse rfind rjust rpartition rsplit rstrip "
    "setdefault split splitlines startswith strip update upper values zfill bit_length add discard title capitalize "
    "swapcase casefold center expandtabs removeprefix removesuffix rindex isascii isdecimal isnumeric istitle "
    "isidentifier isprintable".split()
)
DUNDERS = {"__init__", "__eq__", "__repr__", "__str__", "__len__", "__iter__", "__contains__", "__call__"}
BARRED_NAMES = set("register mro elements open input law version_info with_traceback add_note".split())
BARRED_WORDS = re.compile(
    r"\b(type|typing|typing_extensions|enum|Enum|IntEnum|StrEnum|Flag|IntFlag|Generic|Protocol|ABC|ABCMeta|"
    r"namedtuple|NamedTuple|TypedDict|TYPE_CHECKING|abstractmethod)\b|dataclass|overload|contextmanager"
)
FORBIDDEN = (
    ast.Global, ast.AsyncFunctionDef, ast.AsyncFor, ast.AsyncWith, ast.Await, ast.Div, ast.MatMult,
)
LAZY = {"zip", "enumerate", "reversed", "map"}
EATERS = {"list", "tuple", "dict", "sorted", "sum", "any", "all", "enumerate", "zip", "bytes", "min", "max"}


def parents_of(tree):
    return {child: node for node in ast.walk(tree) for child in ast.iter_child_nodes(node)}


def name_of(node):
    """The bare name that a call calls, if any."""
    return node.func.id if isinstance(node, ast.Call) and isinstance(node.func, ast.Name) else None


def without_docstrings(tree):
    """The code of a tree without comments and docstrings, as text."""
    for node in ast.walk(tree):
        if isinstance(node, (ast.Module, ast.ClassDef, ast.FunctionDef)) and ast.get_docstring(node) is not None:
            node.body = node.body[1:] or [ast.Pass()]
    return ast.unparse(tree)


class File:
    """One file of the package, and what is found in it."""

    def __init__(self, name, source, own_methods):
        self.name, self.source, self.own_methods = name, source, own_methods
        self.tree = ast.parse(source)
        self.parents = parents_of(self.tree)
        self.found = []

    def say(self, rule, node):
        self.found.append((rule, self.name, getattr(node, "lineno", 0)))

    def check(self):
        self.check_text()
        self.check_top()
        self.check_names()
        for node in ast.walk(self.tree):
            self.check_node(node)
        return self.found

    def check_text(self):
        lines = self.source.split("\n")
        if len(lines) > 400 or any(len(line) > 120 or "\t" in line for line in lines):
            self.say("L10", self.tree)
        if not re.fullmatch(r"[ -~\n]*", self.source):
            self.say("L14", self.tree)
        if "_wall" in self.source or "_WallAttr" in self.source:
            self.say("L12", self.tree)
        if BARRED_WORDS.search(without_docstrings(ast.parse(self.source))):
            self.say("L17", self.tree)

    def check_top(self):
        seen, others = [], False
        for at, node in enumerate(self.tree.body):
            if isinstance(node, ast.Expr) and isinstance(node.value, ast.Constant) and at == 0:
                continue
            if isinstance(node, ast.ImportFrom):
                self.check_import(node)
                if others:
                    self.say("L2", node)
                seen += [alias.name for alias in node.names]
            elif isinstance(node, (ast.FunctionDef, ast.ClassDef)):
                seen.append(node.name)
                others = True
            elif isinstance(node, ast.Assign) and isinstance(node.targets[0], ast.Name) and len(node.targets) == 1:
                seen.append(node.targets[0].id)
                others = True
            else:
                self.say("L3", node)
        if len(seen) != len(set(seen)):
            self.say("L15", self.tree)
        self.top = set(seen)

    def check_import(self, node):
        ours = node.module and node.module.split(".")[0] == PACKAGE and node.module.count(".") == 1
        library = node.module in LIBRARY and all(alias.name in LIBRARY[node.module] for alias in node.names)
        if node.level or not (ours or library) or any(alias.asname or alias.name == "*" for alias in node.names):
            self.say("L2", node)

    def check_names(self):
        for node in ast.walk(self.tree):
            names = []
            if isinstance(node, ast.Name) and isinstance(node.ctx, ast.Store):
                names = [node.id]
            elif isinstance(node, ast.arg):
                names = [node.arg]
            elif isinstance(node, (ast.FunctionDef, ast.ClassDef)):
                names = [node.name]
            for name in names:
                method = isinstance(node, ast.FunctionDef) and isinstance(self.parents[node], ast.ClassDef)
                if name in BARRED_NAMES or (name in ALL_BUILTINS and not (method and name not in BUILTINS)):
                    self.say("L15", node)
                if name.startswith("__") and not (method and name in DUNDERS):
                    self.say("L8", node)
                local = not isinstance(self.parents.get(node), (ast.Module, ast.ClassDef))
                if name in self.top and local and not self.at_top(node):
                    self.say("L15", node)
                if re.match(r"_(pe|dcw|enum|cm|twin_re|lay|law|stub)_|_sre", name):
                    self.say("L12", node)

    def at_top(self, node):
        while node in self.parents:
            node = self.parents[node]
            if isinstance(node, (ast.FunctionDef, ast.Lambda, ast.ListComp, ast.DictComp, ast.SetComp)):
                return False
        return True

    def check_node(self, node):
        if isinstance(node, FORBIDDEN) or isinstance(node, ast.Constant) and isinstance(node.value, (float, complex)):
            self.say("L6/L7", node)
        if isinstance(node, ast.FunctionDef):
            self.check_function(node)
            self.check_operator(node)
        if isinstance(node, ast.Try) and (len(node.body) != 1 or node.finalbody or node.orelse):
            # Allowed in more forms, none of which is needed here.
            self.say("L6/L19", node)
        if isinstance(node, ast.ClassDef) and (node.decorator_list or node.keywords):
            self.say("L5", node)
        if isinstance(node, ast.Name) and isinstance(node.ctx, ast.Load):
            self.check_builtin(node)
        if isinstance(node, ast.Call):
            self.check_call(node)
        if isinstance(node, ast.GeneratorExp):
            self.check_generator(node)
        if isinstance(node, (ast.Set, ast.SetComp)) or name_of(node) in ("set", "frozenset"):
            self.check_set(node)
        if isinstance(node, ast.Compare):
            self.check_is(node)
        if isinstance(node, ast.ExceptHandler) and not self.names_own_error(node):
            self.say("L19", node)
        if isinstance(node, ast.Raise) and node.exc is not None and name_of(node.exc) is None:
            self.say("L19", node)
        if isinstance(node, ast.Constant) and isinstance(node.value, str) and "%" in node.value:
            self.say("L27", node)
        if isinstance(node, ast.BinOp) and isinstance(node.op, ast.Pow) and not isinstance(node.right, ast.Constant):
            self.say("L27", node)

    def check_function(self, node):
        if node.end_lineno - node.lineno + 1 > 40:
            self.say("L10", node)
        if any(not isinstance(one, ast.Name) for one in node.decorator_list):
            self.say("L4", node)
        for value in node.args.defaults + [x for x in node.args.kw_defaults if x is not None]:
            if not isinstance(value, (ast.Constant, ast.Tuple, ast.UnaryOp)):
                self.say("L4", node)

    def check_builtin(self, node):
        if node.id in ALL_BUILTINS and node.id not in BUILTINS and node.id not in ("property", "super"):
            self.say("L8", node)

    def check_call(self, node):
        if isinstance(node.func, ast.Attribute):
            if node.func.attr not in METHODS | self.own_methods:
                self.say("L25", node)
            if node.func.attr in METHODS and node.keywords and node.func.attr not in self.own_methods:
                self.say("L25", node)
        if name_of(node) in LAZY:
            above = self.parents[node]
            looped = isinstance(above, (ast.For, ast.comprehension)) and above.iter is node
            if not looped and name_of(above) not in EATERS:
                self.say("L23", node)
        if name_of(node) in ("bytes", "map", "iter", "next", "getattr", "hasattr", "setattr", "pow"):
            # Allowed in a few forms only, which this check does not tell apart, but for the one of an `__iter__`.
            if not self.is_iteration(node):
                self.say("L7/L8", node)

    def is_iteration(self, node):
        """Whether a call is the `iter` of an attribute that is the one statement of an `__iter__`."""
        above = self.parents[self.parents[node]]
        return (
            name_of(node) == "iter" and len(node.args) == 1 and isinstance(node.args[0], ast.Attribute)
            and isinstance(self.parents[node], ast.Return)
            and isinstance(above, ast.FunctionDef) and above.name == "__iter__" and len(above.body) == 1
        )

    def check_operator(self, node):
        """Operators change nothing: here, none of them assigns anything, or does more than to return."""
        if node.name == "__init__" or not node.name.startswith("__"):
            return
        rows = [row for row in node.body
                if not (isinstance(row, ast.Expr) and isinstance(row.value, ast.Constant))]
        if len(rows) != 1 or not isinstance(rows[0], ast.Return):
            self.say("L5/L28", node)

    def check_generator(self, node):
        # Books compare, so even any, all, sum, min, max and sorted take a list.
        above = self.parents[node]
        joined = isinstance(above, ast.Call) and isinstance(above.func, ast.Attribute) and above.func.attr == "join"
        if name_of(above) not in ("list", "tuple", "dict") and not joined:
            self.say("L7", node)

    def check_set(self, node):
        above = self.parents[node]
        beside = isinstance(above, ast.Compare) and node is not above.left
        stored = isinstance(above, ast.Assign) and isinstance(above.targets[0], ast.Name)
        if not (beside or stored or name_of(above) in ("sorted", "len")):
            self.say("L24", node)

    def check_is(self, node):
        for op, right in zip(node.ops, node.comparators):
            if isinstance(op, (ast.Is, ast.IsNot)):
                if not (isinstance(right, ast.Constant) and right.value in (None, True, False)):
                    self.say("L20", node)

    def names_own_error(self, node):
        kinds = node.type.elts if isinstance(node.type, ast.Tuple) else [node.type]
        return all(isinstance(kind, ast.Name) and (kind.id == "KeyError" or kind.id in self.top) for kind in kinds)


def sources():
    folder = os.path.join(TOP, PACKAGE)
    names = [name for name in sorted(os.listdir(folder)) if name != "__pycache__"]
    found = {}
    for name in names:
        with open(os.path.join(folder, name), encoding="utf-8") as file:
            found[name] = file.read()
    return found


def methods_of(texts):
    return {
        node.name
        for text in texts
        for top in ast.walk(ast.parse(text)) if isinstance(top, ast.ClassDef)
        for node in top.body if isinstance(node, ast.FunctionDef)
    }


def found_in(text):
    return [rule for rule, _, _ in File("sample.py", text, {"shown"}).check()]


class TestPackage(unittest.TestCase):
    def test_files(self):
        files = sources()
        self.assertIn("__init__.py", files)
        self.assertLessEqual(len(files), 100)
        for name in files:
            self.assertRegex(name, r"^[a-z0-9_]+\.py$", "L1")
            self.assertNotIn(name[:-3], ALL_BUILTINS | BARRED_NAMES | {"test", "tests", "site", "conftest"}, "L14")

    def test_rules(self):
        files = sources()
        methods = methods_of(files.values())
        for name, source in files.items():
            self.assertEqual(File(name, source, methods).check(), [])

    def test_imports_name_the_file_that_defines_the_name(self):
        files = sources()
        for source in files.values():
            for node in ast.walk(ast.parse(source)):
                if isinstance(node, ast.ImportFrom) and node.module.startswith(PACKAGE + "."):
                    other = ast.parse(files[node.module.split(".")[1] + ".py"])
                    defined = {top.name for top in other.body if isinstance(top, (ast.FunctionDef, ast.ClassDef))}
                    defined |= {top.targets[0].id for top in other.body if isinstance(top, ast.Assign)}
                    for alias in node.names:
                        self.assertIn(alias.name, defined, "L16")

    def test_no_two_files_import_from_each_other(self):
        left = {name: {node.module.split(".")[1] + ".py" for node in ast.parse(source).body
                       if isinstance(node, ast.ImportFrom) and node.module.startswith(PACKAGE + ".")}
                for name, source in sources().items()}
        while left:
            ends = {name for name, others in left.items() if not others & set(left)}
            self.assertTrue(ends, "L16")
            left = {name: others for name, others in left.items() if name not in ends}

    def test_no_name_is_a_method_and_an_attribute_of_one_class(self):
        for source in sources().values():
            for top in ast.walk(ast.parse(source)):
                if isinstance(top, ast.ClassDef):
                    stored = {node.attr for node in ast.walk(top)
                              if isinstance(node, ast.Attribute) and isinstance(node.ctx, ast.Store)}
                    methods = [node.name for node in top.body if isinstance(node, ast.FunctionDef)]
                    self.assertFalse(stored & set(methods), "L18")
                    self.assertEqual(len(methods), len(set(methods)), "L18")


class TestTheChecks(unittest.TestCase):
    def test_what_is_found(self):
        for rule, text in (
            ("L3", "import os\n"),
            ("L2", "from os import path\n"),
            ("L2", "from hushedasks.books import *\n"),
            ("L3", "if True:\n    pass\n"),
            ("L4", "def f(x=[]):\n    return x\n"),
            ("L6/L7", "def f(x):\n    return x / 2\n"),
            ("L6/L7", "def f():\n    return 0.5\n"),
            ("L7", "def f(xs):\n    return any(x for x in xs)\n"),
            ("L8", "def f(x):\n    return hash(x)\n"),
            ("L10", "def f():\n" + "    pass\n" * 40),
            ("L10", "X = 0  #" + "x" * 120 + "\n"),
            ("L14", "X = \"\u00e4\"\n"),
            ("L15", "def f(id):\n    return id\n"),
            ("L15", "def f():\n    pass\n\n\ndef g(f):\n    return f\n"),
            ("L17", "X = \"type\"\n"),
            ("L19", "def f():\n    try:\n        pass\n    except Exception:\n        pass\n"),
            ("L20", "def f(x, y):\n    return x is y\n"),
            ("L5/L28", "class C:\n    def __contains__(self, x):\n        self.n = 1\n        return x == 1\n"),
            ("L6/L19", "def f():\n    try:\n        pass\n    finally:\n        pass\n"),
            ("L7/L8", "def f(x):\n    return iter(x.rows)\n"),
            ("L7/L8", "class C:\n    def __iter__(self):\n        return iter([1])\n"),
            ("L23", "def f(x):\n    y = zip(x, x)\n    return y\n"),
            ("L24", "def f(x):\n    return set(x)\n"),
            ("L25", "def f(x):\n    return x.format(1)\n"),
            ("L25", "def f(x):\n    x.sort()\n"),
            ("L27", "def f():\n    return \"%\"\n"),
        ):
            self.assertIn(rule, found_in(text), text)

    def test_what_is_not(self):
        text = (
            "\"\"\"Of the type that is shown.\"\"\"\n\n"
            "from hushedasks.books import Book\n\nMOST = 3\n\n\n"
            "def f(x, y=3):\n    return [k for k, _ in enumerate(x) if k is not None and k in {1, y}]\n"
        )
        self.assertEqual(found_in(text), [])
        self.assertEqual(found_in("class C:\n    def __iter__(self):\n        return iter(self.rows)\n"), [])
        self.assertEqual(found_in("def f(box):\n    box.shown()\n    return sorted({k for k in box})\n"), [])


if __name__ == "__main__":
    unittest.main()
