"""The package keeps to the part of Python that it is written in: what a plain look can tell of it."""

import ast
import builtins
import pathlib
import re
import unittest

PACKAGE = pathlib.Path(__file__).resolve().parent.parent / "ringhues"

OWN_NAMES = set(
    "len range enumerate zip min max sum abs sorted reversed int str bool bytes list tuple dict set frozenset "
    "isinstance ord repr any all divmod Exception ValueError TypeError KeyError IndexError LookupError "
    "ZeroDivisionError ArithmeticError OverflowError RuntimeError NotImplementedError AttributeError "
    "StopIteration".split()
)
OWN_METHODS = set(
    "append clear copy count endswith extend find get index insert isalnum isalpha isdigit islower isspace isupper "
    "items join keys ljust lower lstrip partition pop remove replace reverse rfind rjust rpartition rsplit rstrip "
    "setdefault split splitlines startswith strip update upper values zfill bit_length add discard sort".split()
)
NO_WORDS = (
    "type typing typing_extensions enum Enum IntEnum StrEnum Flag IntFlag Generic Protocol ABC ABCMeta namedtuple "
    "NamedTuple TypedDict TYPE_CHECKING abstractmethod"
).split()
NO_NAMES = set(
    "register mro elements open input version_info with_traceback add_note attrgetter breakpoint builtins compile "
    "copyright credits delattr dir eval exec exit gc getattr globals hasattr help id importlib license locals "
    "methodcaller os quit setattr super type vars sys format format_map".split()
)
NO_NODES = (
    ast.With, ast.Global, ast.Nonlocal, ast.Yield, ast.YieldFrom, ast.Await, ast.AsyncFunctionDef, ast.AsyncFor,
    ast.AsyncWith, ast.GeneratorExp, ast.NamedExpr, ast.Div, ast.Match, ast.Import, ast.Delete, ast.MatMult,
)
WALKED = {"range", "zip", "enumerate", "reversed"}
WALKED_METHODS = {"items", "keys", "values"}
WALKERS = set("list tuple dict sorted sum any all enumerate zip bytes min max".split())
UNDERSCORED = {"__init__", "__eq__", "__repr__", "__str__", "__len__"}


def package_files():
    return sorted(path for path in PACKAGE.rglob("*") if path.is_file() and "__pycache__" not in path.parts)


class LanguageTest(unittest.TestCase):
    def trees(self):
        for path in package_files():
            yield path.name, ast.parse(path.read_text(encoding="utf-8"))

    def nodes(self, *kinds):
        for name, tree in self.trees():
            for node in ast.walk(tree):
                if isinstance(node, kinds):
                    yield f"{name}:{getattr(node, 'lineno', 0)}", node

    def test_files_and_signs(self):
        for path in package_files():
            self.assertRegex(path.name, r"^[a-z0-9_]+\.py$")
            text = path.read_text(encoding="utf-8")
            self.assertRegex(text, r"\A[ -~\n]*\Z", path.name)
            self.assertLessEqual(text.count("\n"), 400, path.name)
            self.assertLessEqual(max(map(len, text.split("\n"))), 120, path.name)
            for word in NO_WORDS:
                self.assertIsNone(re.search(rf"\b{word}\b", text), (path.name, word))
            self.assertIsNone(re.search("dataclass|overload|contextmanager", text), path.name)

    def test_imports(self):
        modules = {path.stem for path in package_files()}
        for where, node in self.nodes(ast.ImportFrom):
            self.assertEqual(node.level, 0, where)
            head, _, module = node.module.partition(".")
            self.assertEqual(head, "ringhues", where)
            self.assertIn(module, modules, where)

    def test_no_two_files_draw_from_one_another(self):
        drawn = {name.removesuffix(".py"): set() for name, _ in self.trees()}
        for name, tree in self.trees():
            for node in ast.walk(tree):
                if isinstance(node, ast.ImportFrom):
                    drawn[name.removesuffix(".py")].add(node.module.partition(".")[2])
        while drawn:
            free = {name for name, others in drawn.items() if not others}
            self.assertTrue(free, drawn)
            drawn = {name: others - free for name, others in drawn.items() if name not in free}

    def test_names_are_drawn_from_the_file_that_defines_them(self):
        defined = {}
        for name, tree in self.trees():
            rows = [row.name for row in tree.body if isinstance(row, (ast.FunctionDef, ast.ClassDef))]
            rows += [target.id for row in tree.body if isinstance(row, ast.Assign) for target in row.targets]
            self.assertEqual(len(rows), len(set(rows)), name)
            defined["ringhues." + name.removesuffix(".py")] = rows
        for where, node in self.nodes(ast.ImportFrom):
            for alias in node.names:
                self.assertIn(alias.name, defined[node.module], where)

    def test_walked_at_once(self):
        for name, tree in self.trees():
            around = {child: node for node in ast.walk(tree) for child in ast.iter_child_nodes(node)}
            for node in around:
                if isinstance(node, ast.Call) and (
                    getattr(node.func, "id", "") in WALKED or getattr(node.func, "attr", "") in WALKED_METHODS
                ):
                    self.assertTrue(self.is_walked(around[node], node), f"{name}:{node.lineno}")

    def is_walked(self, outer, node):
        if isinstance(outer, (ast.For, ast.comprehension)):
            return outer.iter is node
        if isinstance(outer, ast.Call):
            called = getattr(outer.func, "id", "")
            return called in WALKERS or called == "reversed" and getattr(node.func, "id", "") == "range"
        return False

    def test_sets_are_not_kept(self):
        # Narrower than need be: what this package has use for.
        for name, tree in self.trees():
            around = {child: node for node in ast.walk(tree) for child in ast.iter_child_nodes(node)}
            for node in around:
                made = isinstance(node, ast.Call) and getattr(node.func, "id", "") in ("set", "frozenset")
                if made or isinstance(node, (ast.Set, ast.SetComp)):
                    outer = around[node]
                    self.assertIsInstance(outer, ast.Call, f"{name}:{node.lineno}")
                    self.assertIn(getattr(outer.func, "id", ""), ("len", "sorted"), f"{name}:{node.lineno}")

    def test_forms(self):
        for where, node in self.nodes(ast.AST):
            self.assertNotIsInstance(node, NO_NODES, where)
            if isinstance(node, ast.Constant):
                self.assertNotIsInstance(node.value, (float, complex), where)
                self.assertFalse(isinstance(node.value, str) and "%" in node.value, where)
            if isinstance(node, (ast.For, ast.While)):
                self.assertEqual(node.orelse, [], where)
            if isinstance(node, (ast.FunctionDef, ast.ClassDef)):
                self.assertEqual(node.decorator_list, [], where)
            if isinstance(node, ast.Compare):
                for sign, right in zip(node.ops, node.comparators):
                    if isinstance(sign, (ast.Is, ast.IsNot)):
                        self.assertIn(repr(getattr(right, "value", 0)), ("None", "True", "False"), where)

    def test_functions(self):
        for where, node in self.nodes(ast.FunctionDef):
            self.assertLessEqual(node.end_lineno - node.lineno + 1, 40, where)
            self.assertIsNone(node.args.vararg, where)
            self.assertIsNone(node.args.kwarg, where)
            self.assertEqual(node.args.posonlyargs, [], where)
            if node.name.startswith("_"):
                self.assertIn(node.name, UNDERSCORED, where)

    def test_names(self):
        for where, node in self.nodes(ast.Name, ast.arg, ast.FunctionDef, ast.ClassDef):
            name = getattr(node, "id", None) or getattr(node, "arg", None) or getattr(node, "name", None)
            self.assertNotIn(name, NO_NAMES, where)
            if isinstance(node, ast.Name) and isinstance(node.ctx, ast.Load) and hasattr(builtins, name):
                self.assertIn(name, OWN_NAMES, where)
            elif not hasattr(node, "name") or name not in UNDERSCORED:
                self.assertFalse(hasattr(builtins, name) or name.startswith("_"), (where, name))

    def test_no_local_is_called_like_an_import_or_a_class(self):
        for file, tree in self.trees():
            taken = {alias.name for row in tree.body if isinstance(row, ast.ImportFrom) for alias in row.names}
            taken |= {row.name for row in tree.body if isinstance(row, ast.ClassDef)}
            for node in ast.walk(tree):
                if isinstance(node, ast.arg):
                    self.assertNotIn(node.arg, taken, file)
                if isinstance(node, ast.Name) and isinstance(node.ctx, ast.Store):
                    self.assertNotIn(node.id, taken, file)

    def test_methods_and_values(self):
        methods, values = set(UNDERSCORED), set()
        for _, node in self.nodes(ast.ClassDef):
            methods |= {row.name for row in node.body if isinstance(row, ast.FunctionDef)}
        for _, node in self.nodes(ast.Attribute):
            if isinstance(node.ctx, ast.Store):
                values.add(node.attr)
        self.assertEqual(methods & values, set())
        for where, node in self.nodes(ast.Attribute):
            self.assertIn(node.attr, methods | values | OWN_METHODS, where)
