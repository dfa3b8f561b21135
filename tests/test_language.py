"""The package's files keep to the small part of Python that the program is written in."""

import ast
import builtins
import os
import re
import unittest

PACKAGE = os.path.join(os.path.dirname(os.path.dirname(os.path.abspath(__file__))), "bitfloor")

OWN_NAMES = set(
    "len range enumerate zip min max sum abs sorted reversed int str bool list tuple dict set frozenset isinstance "
    "ord repr any all divmod Exception ValueError TypeError KeyError IndexError LookupError ZeroDivisionError "
    "ArithmeticError OverflowError RuntimeError NotImplementedError AttributeError StopIteration".split()
)
METHODS = set(
    "append clear copy count endswith extend find get index insert isalnum isalpha isdigit islower isspace isupper "
    "items join keys ljust lower lstrip partition pop remove replace reverse rfind rjust rpartition rsplit rstrip "
    "setdefault split splitlines startswith strip update upper values zfill bit_length".split()
)
CHANGING = set("append clear extend insert pop remove reverse setdefault update add discard".split())
DUNDERS = set("__init__ __eq__ __repr__ __str__ __len__".split())
BANNED_WORDS = re.compile(
    r"\b(type|typing|typing_extensions|enum|Enum|IntEnum|StrEnum|Flag|IntFlag|Generic|Protocol|ABC|ABCMeta|namedtuple"
    r"|NamedTuple|TypedDict|TYPE_CHECKING|abstractmethod)\b|dataclass|overload|contextmanager"
)
BANNED_NAMES = set(
    "register mro elements open input version_info with_traceback add_note attrgetter breakpoint builtins compile "
    "copyright credits delattr dir eval exec exit gc getattr globals hasattr help id importlib license locals "
    "methodcaller os quit setattr super type vars sys format format_map chr".split()
)
MAKERS = (
    "raising", "shrinking", "layers", "fitting", "packing", "placing", "leading", "bitwriting", "back", "opening", "meets",
    "making", "hall",
)
CHECKERS = ("smallcheck", "layercheck", "fitcheck", "wayscheck", "meetscheck")
VALUE_NAMES = set("count index title find get join lower upper split strip copy add".split())
STATEMENTS = (
    ast.Assign, ast.AugAssign, ast.If, ast.While, ast.For, ast.Return, ast.Break, ast.Continue, ast.Pass, ast.Raise,
    ast.Try, ast.Expr, ast.FunctionDef, ast.ClassDef, ast.ImportFrom,
)
EXPRESSIONS = (
    ast.Constant, ast.Name, ast.List, ast.Tuple, ast.Dict, ast.Set, ast.BinOp, ast.UnaryOp, ast.BoolOp, ast.Compare,
    ast.IfExp, ast.Call, ast.Attribute, ast.Subscript, ast.Slice, ast.ListComp, ast.JoinedStr, ast.FormattedValue,
    ast.Lambda,
)
WALKED = set("zip enumerate reversed range".split())
WALKERS = set("list tuple dict sorted sum any all enumerate zip min max".split())
READERS = set("len list dict tuple sorted min max sum any all enumerate zip reversed".split())
KEYWORDS = {
    "sorted": ("key", "reverse"), "min": ("key", "default"), "max": ("key", "default"), "sum": ("start",),
    "enumerate": ("start",), "zip": ("strict",),
}


def python_value_names():
    names = set()
    for kind in (str, int, list, dict, set, bytes, tuple):
        names.update(dir(kind))
    return names


def is_plain(node):
    if isinstance(node, ast.Constant):
        return node.value is None or isinstance(node.value, (bool, int, str))
    if isinstance(node, ast.UnaryOp):
        return isinstance(node.op, ast.USub) and is_plain(node.operand)
    if isinstance(node, (ast.List, ast.Tuple)):
        return all(is_plain(inner) for inner in node.elts)
    if isinstance(node, ast.Dict):
        return all(is_plain(inner) for inner in node.keys + node.values)
    return isinstance(node, ast.Name)


class Checker:
    """Looks at one file; what it finds is a list of pairs (rule, line)."""

    def __init__(self, source, shared_tops=()):
        self.found = []
        self.source = source
        self.tree = ast.parse(source)
        self.parents = {}
        for node in ast.walk(self.tree):
            for child in ast.iter_child_nodes(node):
                self.parents[child] = node
        self.classes = [node for node in self.tree.body if isinstance(node, ast.ClassDef)]
        self.imported = [
            alias.name for node in self.tree.body if isinstance(node, ast.ImportFrom) for alias in node.names
        ]
        self.kept_tops = set(shared_tops) & set(self.imported)
        self.tops = []
        for node in self.tree.body:
            if isinstance(node, (ast.FunctionDef, ast.ClassDef)):
                self.tops.append(node.name)
            elif isinstance(node, ast.Assign) and isinstance(node.targets[0], ast.Name):
                self.tops.append(node.targets[0].id)
                if isinstance(node.value, (ast.List, ast.Dict)):
                    self.kept_tops.add(node.targets[0].id)

    def say(self, rule, node):
        self.found.append((rule, getattr(node, "lineno", node if isinstance(node, int) else 0)))

    def check(self):
        self.check_text()
        self.check_top()
        for node in ast.walk(self.tree):
            self.check_shape(node)
            self.check_names(node)
            self.check_calls(node)
            self.check_kept(node)
            self.check_numbers(node)
            if isinstance(node, ast.FunctionDef):
                self.check_def(node)
            if isinstance(node, ast.ClassDef):
                self.check_class(node)
            if isinstance(node, ast.For):
                self.check_loop(node)
        return self.found

    def check_text(self):
        lines = self.source.split("\n")
        if len(lines) > 401:
            self.say("L10", len(lines))
        for number, line in enumerate(lines, start=1):
            if len(line) > 120:
                self.say("L10", number)
            if any(not " " <= sign <= "~" for sign in line):
                self.say("L14", number)
            if BANNED_WORDS.search(line):
                self.say("L17", number)
            if re.search(r"\\[^nt\\'\"]", line):
                self.say("L27", number)

    def check_top(self):
        names = self.tops + self.imported
        if len(set(names)) != len(names):
            self.say("L15", 1)
        imports_over = False
        for count, node in enumerate(self.tree.body):
            docstring = count == 0 and isinstance(node, ast.Expr) and isinstance(node.value, ast.Constant)
            if isinstance(node, ast.ImportFrom):
                plain = all(alias.asname is None and alias.name != "*" for alias in node.names)
                if imports_over or node.level or not plain or not (node.module or "").startswith("bitfloor."):
                    self.say("L2", node)
            elif isinstance(node, ast.Assign):
                if not isinstance(node.targets[0], ast.Name) or not is_plain(node.value):
                    self.say("L3", node)
                inner = list(ast.walk(node.value))[1:]
                if any(isinstance(thing, (ast.List, ast.Dict, ast.Set)) for thing in inner):
                    self.say("L15", node)
            elif not docstring and not isinstance(node, (ast.FunctionDef, ast.ClassDef)):
                self.say("L3", node)
            imports_over = imports_over or not (docstring or isinstance(node, ast.ImportFrom))

    def check_shape(self, node):
        if isinstance(node, ast.stmt) and not isinstance(node, STATEMENTS):
            self.say("L6", node)
        if isinstance(node, ast.expr) and not isinstance(node, EXPRESSIONS):
            self.say("L7", node)
        if isinstance(node, ast.Assign):
            if len(node.targets) != 1 or isinstance(node.targets[0], (ast.Tuple, ast.List)):
                self.say("L6", node)
        if isinstance(node, (ast.For, ast.While)) and node.orelse:
            self.say("L6", node)
        if isinstance(node, ast.Try):
            if node.finalbody or any(handler.type is None for handler in node.handlers):
                self.say("L6", node)
            for handler in node.handlers:
                if isinstance(handler.type, ast.Name) and handler.type.id in ("Exception", "TypeError"):
                    self.say("L19", node)
        if isinstance(node, ast.Expr) and not isinstance(node.value, (ast.Call, ast.Constant)):
            self.say("L6", node)
        if isinstance(node, ast.ListComp):
            if len(node.generators) != 1 or len(node.generators[0].ifs) > 1:
                self.say("L7", node)
        if isinstance(node, ast.BinOp) and isinstance(node.op, (ast.Div, ast.MatMult)):
            self.say("L7", node)
        if isinstance(node, ast.Compare):
            for op, side in zip(node.ops, node.comparators):
                if isinstance(op, (ast.Is, ast.IsNot)):
                    if not isinstance(side, ast.Constant) or side.value not in (None, True, False):
                        self.say("L20", node)
        if isinstance(node, (ast.ImportFrom, ast.ClassDef)) and node not in self.tree.body:
            self.say("L15", node)
        if isinstance(node, (ast.arg, ast.FunctionDef)) and getattr(node, "annotation", None) is not None:
            self.say("L21", node)

    def check_names(self, node):
        if isinstance(node, ast.Name):
            self.check_name(node.id, node)
            if isinstance(node.ctx, ast.Load) and hasattr(builtins, node.id) and node.id not in OWN_NAMES:
                self.say("L8", node)
            if isinstance(node.ctx, ast.Store) and node not in [
                inner.targets[0] for inner in self.tree.body if isinstance(inner, ast.Assign)
            ]:
                self.check_bound(node.id, node)
        if isinstance(node, ast.arg):
            self.check_name(node.arg, node)
            self.check_bound(node.arg, node)
        if isinstance(node, ast.Attribute):
            self.check_name(node.attr, node)
        if isinstance(node, (ast.FunctionDef, ast.ClassDef)):
            self.check_name(node.name, node)

    def check_name(self, name, node):
        if not re.fullmatch("[A-Za-z][A-Za-z0-9_]*", name) and name not in DUNDERS:
            self.say("L12", node)
        if name in BANNED_NAMES:
            self.say("L17", node)

    def check_bound(self, name, node):
        if name in self.imported or name in [inner.name for inner in self.classes] or hasattr(builtins, name):
            self.say("L15", node)

    def check_calls(self, node):
        if not isinstance(node, ast.Call):
            return
        if any(isinstance(thing, ast.Starred) for thing in node.args):
            self.say("L7", node)
        name = node.func.id if isinstance(node.func, ast.Name) else ""
        for keyword in node.keywords:
            if keyword.arg not in KEYWORDS.get(name, ()):
                self.say("L22", node)
        walked = name in WALKED
        if isinstance(node.func, ast.Attribute):
            if isinstance(node.func.value, ast.Constant) and node.func.attr != "join":
                self.say("L25", node)
            walked = node.func.attr in ("items", "keys", "values")
        if walked and not self.is_walked(node):
            self.say("L23", node)
        if name in ("set", "frozenset"):
            self.check_set(node)

    def is_walked(self, node):
        parent = self.parents[node]
        if isinstance(parent, (ast.For, ast.comprehension)):
            return parent.iter is node
        if isinstance(parent, ast.Call):
            if isinstance(parent.func, ast.Name) and parent.func.id in WALKERS:
                return True
            return isinstance(parent.func, ast.Attribute) and parent.func.attr == "join"
        return False

    def check_set(self, node):
        parent = self.parents[node]
        while isinstance(parent, ast.BinOp):
            parent = self.parents[parent]
        fine = isinstance(parent, ast.Compare)
        if isinstance(parent, ast.Call) and isinstance(parent.func, ast.Name):
            fine = parent.func.id in ("sorted", "len") and not parent.keywords
        if not fine:
            self.say("L24", node)

    def check_kept(self, node):
        """A list or dict of a file's top is only read."""
        if not isinstance(node, ast.Name) or not isinstance(node.ctx, ast.Load) or node.id not in self.kept_tops:
            return
        parent = self.parents[node]
        fine = isinstance(parent, ast.Compare)
        if isinstance(parent, ast.Subscript):
            fine = isinstance(parent.ctx, ast.Load)
        if isinstance(parent, (ast.For, ast.comprehension)):
            fine = True
        if isinstance(parent, ast.Attribute):
            fine = parent.attr in ("get", "items", "keys", "values", "index", "count")
        if isinstance(parent, ast.Call) and isinstance(parent.func, ast.Name):
            fine = parent.func.id in READERS
        if not fine:
            self.say("L15", node)

    def check_numbers(self, node):
        if isinstance(node, ast.BinOp) and isinstance(node.op, ast.Pow):
            if not isinstance(node.right, ast.Constant) or not 0 <= node.right.value <= 64:
                self.say("L27", node)
        if isinstance(node, ast.Constant):
            if isinstance(node.value, (float, bytes, complex)):
                self.say("L7", node)
            if isinstance(node.value, str) and "%" in node.value:
                self.say("L27", node)
        if isinstance(node, ast.FormattedValue):
            if not isinstance(node.value, ast.Name) or node.format_spec is not None:
                self.say("L7", node)

    def check_def(self, node):
        if node.end_lineno - node.lineno + 1 > 40:
            self.say("L10", node)
        args = node.args
        if args.vararg or args.kwarg or args.kwonlyargs or args.posonlyargs or node.decorator_list:
            self.say("L4", node)
        if node.returns is not None:
            self.say("L21", node)

    def check_class(self, node):
        if node.decorator_list or node.keywords or len(node.bases) > 1:
            self.say("L5", node)
        names = []
        for count, inner in enumerate(node.body):
            docstring = count == 0 and isinstance(inner, ast.Expr)
            if isinstance(inner, ast.FunctionDef):
                names.append(inner.name)
            elif not docstring and not isinstance(inner, ast.Pass):
                self.say("L5", inner)
        if len(set(names)) != len(names):
            self.say("L18", node)

    def check_loop(self, node):
        """What a loop walks is not changed in it."""
        walked = node.iter
        if isinstance(walked, ast.Call) and isinstance(walked.func, ast.Name) and walked.func.id in WALKED:
            walked_texts = [ast.dump(thing) for thing in walked.args]
        elif isinstance(walked, ast.Call) and isinstance(walked.func, ast.Attribute):
            walked_texts = [ast.dump(walked.func.value)]
        else:
            walked_texts = [ast.dump(walked)]
        for statement in node.body:
            for inner in ast.walk(statement):
                changed = None
                if isinstance(inner, ast.Call) and isinstance(inner.func, ast.Attribute):
                    changed = inner.func.value if inner.func.attr in CHANGING else None
                if isinstance(inner, ast.Subscript) and isinstance(inner.ctx, ast.Store):
                    changed = inner.value
                if changed is not None and ast.dump(changed) in walked_texts:
                    self.say("L23", inner)


def package_sources():
    sources = {}
    for name in sorted(os.listdir(PACKAGE)):
        if name.endswith(".py"):
            with open(os.path.join(PACKAGE, name), encoding="utf-8") as file:
                sources[name[:-3]] = file.read()
    return sources


class PackageTest(unittest.TestCase):
    def setUp(self):
        self.sources = package_sources()
        self.shared = [name for source in self.sources.values() for name in Checker(source).kept_tops]

    def test_only_files_of_the_language_lie_in_the_package(self):
        for name in os.listdir(PACKAGE):
            if name != "__pycache__":
                self.assertRegex(name, r"^(__init__|[a-z][a-z0-9_]*)\.py$")
                self.assertFalse(name.startswith("test"), name)
                self.assertTrue(name == "__init__.py" or not hasattr(builtins, name[:-3]), name)

    def test_every_file_keeps_to_the_language(self):
        for name, source in self.sources.items():
            with self.subTest(file=name):
                self.assertEqual(Checker(source, self.shared).check(), [])

    def drawn_files(self):
        """For each file the files that it draws from."""
        drawn = {}
        for name, source in self.sources.items():
            rows = [node for node in ast.parse(source).body if isinstance(node, ast.ImportFrom)]
            drawn[name] = [node.module.partition(".")[2] for node in rows]
        return drawn

    def test_imports_come_from_the_file_that_defines_the_name(self):
        for source in self.sources.values():
            for node in ast.parse(source).body:
                if isinstance(node, ast.ImportFrom):
                    origin = node.module.partition(".")[2]
                    for alias in node.names:
                        self.assertIn(alias.name, Checker(self.sources[origin]).tops)

    def test_the_checkers_know_nothing_of_the_makers(self):
        drawn = self.drawn_files()
        for checker in CHECKERS:
            known = [checker]
            for name in known:
                known.extend(origin for origin in drawn[name] if origin not in known)
            self.assertEqual([name for name in known if name in MAKERS], [], checker)

    def test_no_files_draw_from_one_another(self):
        left = self.drawn_files()
        while left:
            free = [name for name in left if all(origin not in left for origin in left[name])]
            self.assertNotEqual(free, [], "files that draw from one another")
            for name in free:
                del left[name]

    def test_methods_and_values_have_names_of_their_own(self):
        methods = set()
        values = set()
        for source in self.sources.values():
            for node in Checker(source).classes:
                methods.update(inner.name for inner in node.body if isinstance(inner, ast.FunctionDef))
                for inner in ast.walk(node):
                    if isinstance(inner, ast.Attribute) and isinstance(inner.ctx, ast.Store):
                        values.add(inner.attr)
        self.assertEqual(methods & values, set())
        self.assertEqual((values - VALUE_NAMES) & python_value_names(), set())
        self.assertEqual((methods - DUNDERS - METHODS - {"add", "discard"}) & python_value_names(), set())

    def test_methods_that_are_called_are_known_ones(self):
        own = set()
        for source in self.sources.values():
            for node in Checker(source).classes:
                own.update(inner.name for inner in node.body if isinstance(inner, ast.FunctionDef))
        for source in self.sources.values():
            for node in ast.walk(ast.parse(source)):
                if isinstance(node, ast.Call) and isinstance(node.func, ast.Attribute):
                    self.assertIn(node.func.attr, METHODS | own)


class CheckerTest(unittest.TestCase):
    """The checker sees what it is there to see."""

    def rules(self, source):
        return sorted({rule for rule, line in Checker(source).check()})

    def test_plain_code_is_taken(self):
        self.assertEqual(self.rules("A = {'a': (1, 2)}\n\n\ndef f(x):\n    return A[x]\n"), [])

    def test_code_outside_is_seen(self):
        cases = (
            ("import os\n", "L3"),
            ("from os import path\n", "L2"),
            ("def f(*xs):\n    return 1\n", "L4"),
            ("def f(x):\n    a = b = x\n    return a\n", "L6"),
            ("def f(x):\n    return [a for b in x for a in b]\n", "L7"),
            ("def f(x):\n    return x / 2\n", "L7"),
            ("def f(x):\n    return (a for a in x)\n", "L7"),
            ("def f(x):\n    return map(x, x)\n", "L8"),
            ("def f(x):\n    return x" + " + x" * 60 + "\n", "L10"),
            ("def f(_x):\n    return 1\n", "L12"),
            ("def f(next):\n    return 1\n", "L15"),
            ("A = {}\n\n\ndef f(x):\n    A[x] = 1\n", "L15"),
            ("A = {}\n\n\ndef f(x):\n    return x(A)\n", "L15"),
            ("A = 'type'\n", "L17"),
            ("def f(x, y):\n    return x is y\n", "L20"),
            ("def f(x):\n    y = zip(x, x)\n    return y\n", "L23"),
            ("def f(x):\n    for y in x:\n        x.append(y)\n", "L23"),
            ("def f(x):\n    y = set(x)\n    return y\n", "L24"),
            ("def f(x):\n    return 2 ** x\n", "L27"),
        )
        for source, rule in cases:
            with self.subTest(source=source):
                self.assertIn(rule, self.rules(source))


if __name__ == "__main__":
    unittest.main()
