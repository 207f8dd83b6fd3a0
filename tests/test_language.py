"""Rules of the language subset that can be seen in the source of the package.

Only what reading the code can settle is tested here; the numbers L1 to L28 are those of the subset.
"""

import ast
import builtins
import re
import unittest
from pathlib import Path

ROOT = Path(__file__).resolve().parent.parent
PACKAGE = ROOT / "keywise"
BUILTINS = set("""
    len range enumerate zip min max sum abs sorted reversed int str bool list tuple dict set frozenset isinstance
    ord repr any all divmod Exception ValueError TypeError KeyError IndexError LookupError ZeroDivisionError
    ArithmeticError OverflowError RuntimeError NotImplementedError AttributeError NotImplemented property staticmethod
    classmethod iter next map super
""".split())
ALL_BUILTINS = set(dir(builtins))
METHODS = set("""
    append clear copy count endswith extend find get index insert isalnum isalpha isdigit islower isspace isupper items
    join keys ljust lower lstrip partition pop remove replace reverse rfind rjust rpartition rsplit rstrip setdefault
    split splitlines startswith strip update upper values zfill bit_length add discard isascii isdecimal
    removeprefix removesuffix
""".split())
DUNDERS = set("""
    init eq repr str len enter exit call iter lt le gt ge ne add sub mul floordiv mod pow and or xor lshift rshift neg
    pos invert abs bool contains getitem setitem
""".split())
UNUSED = set("""
    register mro elements open input law version_info with_traceback add_note attrgetter breakpoint builtins compile
    copyright credits delattr dir eval exec exit gc globals help id importlib license locals methodcaller os quit vars
    sys type typing enum Enum namedtuple dataclass overload contextmanager abstractmethod Protocol Flag ABC Generic
""".split())
LIBRARY = {"math": ("gcd", "lcm", "isqrt", "comb", "perm", "factorial")}
STATEMENTS = (
    ast.Assign, ast.AugAssign, ast.If, ast.While, ast.For, ast.Return, ast.Break, ast.Continue, ast.Pass, ast.Raise,
    ast.Assert, ast.Delete, ast.Nonlocal, ast.Try, ast.Expr, ast.FunctionDef, ast.ClassDef, ast.ImportFrom,
)
TAKES_A_LIST = ("any", "all", "min", "max", "sum", "sorted")
TAKEN_AWAY = "^(_cold|_tuplegetter|_outside|_record|_written_out|_member_names)[0-9_]*$"
MAY_CHANGE = ("__init__", "__call__", "__enter__", "__exit__", "__iter__")


def sources():
    return {path: path.read_text(encoding="utf-8") for path in sorted(PACKAGE.rglob("*.py"))}


def module_name(path):
    parts = list(path.relative_to(ROOT).with_suffix("").parts)
    return ".".join(parts[:-1] if parts[-1] == "__init__" else parts)


def defined(tree):
    names = []
    for node in tree.body:
        if isinstance(node, (ast.FunctionDef, ast.ClassDef)):
            names.append(node.name)
        elif isinstance(node, ast.Assign):
            names += [target.id for target in node.targets]
    return names


def imported(tree):
    return [alias.name for node in tree.body if isinstance(node, ast.ImportFrom) for alias in node.names]


def is_plain(node):
    """Return whether a value at module level is written out."""
    if isinstance(node, (ast.Tuple, ast.List)):
        return all(is_plain(part) for part in node.elts)
    if isinstance(node, ast.Dict):
        return all(is_plain(part) for part in node.keys + node.values)
    if isinstance(node, ast.UnaryOp):
        return isinstance(node.op, ast.USub) and is_plain(node.operand)
    return isinstance(node, (ast.Constant, ast.Name))


def bound(function):
    """Return the names of the parameters and of what the function assigns."""
    names = [part.arg for part in ast.walk(function) if isinstance(part, ast.arg)]
    names += [part.id for part in ast.walk(function) if isinstance(part, ast.Name) and isinstance(part.ctx, ast.Store)]
    return names + [part.name for part in ast.walk(function) if isinstance(part, ast.FunctionDef) and part != function]


def name_of(node):
    """Return the name that stands in a node of the source, or None."""
    found = [getattr(node, field, None) for field in ("id", "attr", "arg", "name")]
    return next((name for name in found if name is not None), None)


def is_property(function):
    return any(ast.unparse(decorator) == "property" for decorator in function.decorator_list)


class Language(unittest.TestCase):
    @classmethod
    def setUpClass(cls):
        cls.sources = sources()
        cls.trees = {path: ast.parse(text) for path, text in cls.sources.items()}
        cls.own_methods = {
            part.name for tree in cls.trees.values() for node in tree.body if isinstance(node, ast.ClassDef)
            for part in node.body if isinstance(part, ast.FunctionDef)
        }

    def nodes(self, *kinds):
        for path, tree in self.trees.items():
            for node in ast.walk(tree):
                if isinstance(node, kinds):
                    yield f"{path.relative_to(ROOT)}:{getattr(node, 'lineno', 0)}", node

    def test_files(self):
        """L1, L10, L14"""
        for path in PACKAGE.rglob("*"):
            if "__pycache__" in path.parts:
                continue
            self.assertTrue(path.is_dir() or path.suffix == ".py", path)
            self.assertRegex(path.stem, "^([a-z][a-z0-9_]*|__init__|__main__)$")
            if path.is_dir():
                self.assertTrue((path / "__init__.py").is_file(), path)
                self.assertFalse(path.with_suffix(".py").exists(), path)
            self.assertNotRegex(path.stem, "^(law_.*|test.*|site|conftest|sitecustomize|usercustomize)$")
            self.assertNotIn(path.stem, ALL_BUILTINS | UNUSED)
        self.assertTrue((PACKAGE / "__init__.py").is_file())
        self.assertLessEqual(len(self.sources), 100)

    def test_lines(self):
        """L10, L14"""
        for path, text in self.sources.items():
            lines = text.split("\n")
            self.assertLess(len(lines), 400, path)
            for number, line in enumerate(lines, 1):
                self.assertRegex(line, "^[ -~]{0,120}$", f"{path}:{number}")
        for where, node in self.nodes(ast.FunctionDef):
            self.assertLessEqual(node.end_lineno - node.lineno + 1, 40, where)

    def test_imports(self):
        """L2, L16"""
        names = {**LIBRARY, **{module_name(path): defined(tree) for path, tree in self.trees.items()}}
        leads = {}
        for path, tree in self.trees.items():
            for node in ast.walk(tree):
                self.assertNotIsInstance(node, ast.Import, path)
                if isinstance(node, ast.ImportFrom):
                    self.assertIn(node, tree.body, path)
                    self.assertEqual(node.level, 0, path)
                    for alias in node.names:
                        self.assertIsNone(alias.asname, path)
                        self.assertIn(alias.name, names.get(node.module, ()), path)
                    leads.setdefault(module_name(path), set()).add(node.module)
        done = set(LIBRARY)
        while len(done) < len(names):
            free = [name for name in names if name not in done and leads.get(name, set()) <= done]
            self.assertTrue(free, "modules import one another")
            done.update(free)

    def test_all_imports_are_used(self):
        for path, tree in self.trees.items():
            used = {node.id for node in ast.walk(tree) if isinstance(node, ast.Name)}
            self.assertEqual([name for name in imported(tree) if name not in used], [], path)

    def test_module_level(self):
        """L3, L15, L16"""
        for path, tree in self.trees.items():
            for at, node in enumerate(tree.body):
                if isinstance(node, ast.Expr):
                    self.assertTrue(at == 0 and isinstance(node.value, ast.Constant), path)
                elif isinstance(node, ast.Assign):
                    self.assertTrue(len(node.targets) == 1 and isinstance(node.targets[0], ast.Name), path)
                    self.assertTrue(is_plain(node.value), path)
                else:
                    self.assertIsInstance(node, (ast.ImportFrom, ast.FunctionDef, ast.ClassDef), path)
            names = defined(tree) + imported(tree)
            self.assertEqual(len(names), len(set(names)), path)

    def test_statements(self):
        """L6, L7, L19, L20, L21"""
        for where, node in self.nodes(ast.stmt):
            self.assertIsInstance(node, STATEMENTS, where)
        for where, node in self.nodes(ast.Try):
            for handler in node.handlers:
                self.assertTrue(isinstance(handler.type, (ast.Name, ast.Tuple)), where)
            for caught in [part for handler in node.handlers for part in ast.walk(handler.type)]:
                if isinstance(caught, ast.Name) and caught.id in ALL_BUILTINS:
                    self.assertIn(caught.id, ("KeyError", "ZeroDivisionError"), where)
        for where, node in self.nodes(ast.Compare):
            for sign, right in zip(node.ops, node.comparators):
                if isinstance(sign, (ast.Is, ast.IsNot)):
                    self.assertTrue(isinstance(right, ast.Constant) and right.value in (None, True, False), where)
        for where, node in self.nodes(ast.Raise):
            if node.exc is not None:
                self.assertTrue(isinstance(node.exc, ast.Call) and isinstance(node.exc.func, ast.Name), where)
        for where, node in self.nodes(ast.arg):
            self.assertIsNone(node.annotation, where)

    def test_expressions(self):
        """L7, L22, L23, L27"""
        for where, node in self.nodes(ast.Constant):
            self.assertIn(node.value.__class__, (int, str, bool, None.__class__), where)
            if isinstance(node.value, str):
                self.assertNotIn("%", node.value, where)
        for where, node in self.nodes(ast.Div):
            self.fail(where)
        for where, node in self.nodes(ast.BinOp):
            if isinstance(node.op, ast.Pow):
                self.assertIsInstance(node.right, ast.Constant, where)
        for where, node in self.nodes(ast.GeneratorExp, ast.Await, ast.Starred, ast.NamedExpr):
            self.assertIsInstance(node, ast.Starred, where)
        for where, node in self.nodes(ast.Call):
            if isinstance(node.func, ast.Name) and node.func.id in TAKES_A_LIST and len(node.args) == 1:
                argument = node.args[0]
                generator = isinstance(argument, ast.Call) and isinstance(argument.func, ast.Name)
                self.assertFalse(generator and argument.func.id in self.generators(), where)

    def generators(self):
        found = set()
        for _, node in self.nodes(ast.FunctionDef):
            if any(isinstance(part, (ast.Yield, ast.YieldFrom)) for part in ast.walk(node)):
                found.add(node.name)
        return found

    def test_generators(self):
        """L23"""
        found = self.generators()
        self.assertFalse(found & METHODS)
        defined_names = [node.name for _, node in self.nodes(ast.FunctionDef) if node.name in found]
        self.assertEqual(len(defined_names), len(found))
        for where, node in self.nodes(ast.Name):
            if node.id in found:
                self.assertIsInstance(node.ctx, ast.Load, where)
        for where, node in self.nodes(ast.Assign, ast.Return):
            called = node.value.func if isinstance(node.value, ast.Call) else None
            self.assertFalse(isinstance(called, ast.Name) and called.id in found, where)

    def test_functions(self):
        """L4, L5, L28"""
        for where, node in self.nodes(ast.FunctionDef):
            for decorator in node.decorator_list:
                self.assertRegex(ast.unparse(decorator), r"^(property|staticmethod|classmethod|\w+\.setter)$", where)
            for default in node.args.defaults + node.args.kw_defaults:
                self.assertTrue(default is None or is_plain(default), where)
            if node.name.startswith("__"):
                self.assertIn(node.name[2:-2], DUNDERS, where)
            returns = [ast.unparse(part.value) for part in ast.walk(node) if isinstance(part, ast.Return) and part.value]
            patterns = {"__len__": r"^(len\(.*\)|\d+)$", "__str__": r"^(f?['\"].*|str\(.*|repr\(.*)$", "__init__": "^$"}
            for text in returns:
                self.assertRegex(text, patterns.get(node.name, "."), where)

    def test_classes(self):
        """L5, L17, L18"""
        for where, node in self.nodes(ast.ClassDef):
            self.assertFalse(node.decorator_list or node.keywords, where)
            names = []
            for part in node.body:
                docstring = isinstance(part, ast.Expr) and isinstance(part.value, ast.Constant)
                self.assertTrue(docstring or isinstance(part, (ast.FunctionDef, ast.Assign)), where)
                names += [part.name] if isinstance(part, ast.FunctionDef) else []
            assigned = [
                part.attr for part in ast.walk(node) if isinstance(part, ast.Attribute) and isinstance(part.ctx, ast.Store)
            ]
            self.assertEqual(len(names), len(set(names)), where)
            self.assertFalse(set(names) & set(assigned), where)
            self.assertTrue("__iter__" in names or "__getitem__" not in names, where)

    def test_names(self):
        """L8, L12, L15, L17"""
        for path, tree in self.trees.items():
            taken = set(imported(tree)) | {node.name for node in tree.body if isinstance(node, ast.ClassDef)}
            known = set(defined(tree)) | taken
            for node in [part for part in ast.walk(tree) if isinstance(part, (ast.FunctionDef, ast.Lambda))]:
                self.assertFalse(set(bound(node)) & (taken | ALL_BUILTINS | UNUSED), f"{path}:{node.lineno}")
            self.assertFalse(set(defined(tree)) & (ALL_BUILTINS | UNUSED), path)
            for node in ast.walk(tree):
                if isinstance(node, ast.Name) and node.id in ALL_BUILTINS and node.id not in known:
                    self.assertIn(node.id, BUILTINS, f"{path}:{node.lineno}")
        kinds = (ast.Name, ast.Attribute, ast.arg, ast.keyword, ast.FunctionDef, ast.ClassDef, ast.alias)
        for where, node in self.nodes(*kinds):
            name = name_of(node)
            if name is None or isinstance(node, ast.FunctionDef) and name[2:-2] in DUNDERS:
                continue
            if name == "__init__" and ast.unparse(node) == "super().__init__":
                continue
            self.assertRegex(name, "^(_?[A-Za-z][A-Za-z0-9_]*|_)$", where)
            self.assertFalse(name in UNUSED and not isinstance(node, ast.Attribute), where)
            self.assertNotRegex(name, "^_(wall|pe_|dcw_|enum_|cm_|twin_re_|lay_|law_|stub_|sre)", where)
            self.assertNotRegex(name, TAKEN_AWAY, where)

    def test_names_of_methods_and_values(self):
        """L5, L18"""
        for where, node in self.nodes(ast.Attribute):
            if isinstance(node.ctx, ast.Store):
                self.assertNotIn(node.attr, self.own_methods, where)
        methods = [(node.name, bool(node.decorator_list)) for _, node in self.methods()]
        for name in [name for name, decorated in methods if decorated]:
            self.assertNotIn((name, False), methods)
            self.assertNotIn(name, METHODS)

    def methods(self):
        """Yield all methods with the names of their classes."""
        for _, owner in self.nodes(ast.ClassDef):
            for node in owner.body:
                if isinstance(node, ast.FunctionDef):
                    yield owner.name, node

    def bodies(self):
        """Return a dict from the names of functions, methods and classes to what calls of such names run."""
        found = {}
        for _, node in self.nodes(ast.FunctionDef):
            found.setdefault(node.name, []).append(node)
        for owner, node in self.methods():
            if node.name == "__init__":
                found.setdefault(owner, []).append(node)
        return found

    def test_what_operators_and_properties_run(self):
        """L5, L28: by their names, these call no value that they are passed or hold, and change no object."""
        stored = {node.attr for _, node in self.nodes(ast.Attribute) if isinstance(node.ctx, ast.Store)}
        begun = [node for _, node in self.methods() if is_property(node) or node.name.startswith("__")]
        waiting = [node for node in begun if node.name not in MAY_CHANGE]
        self.assertGreater(len(waiting), 40)
        bodies = self.bodies()
        seen = []
        while waiting:
            node = waiting.pop()
            seen.append(node)
            names = {name_of(part.func) for part in ast.walk(node) if isinstance(part, ast.Call)}
            self.assertFalse(names & (set(bound(node)) | stored | {None}), node.name)
            for part in ast.walk(node):
                changed = isinstance(part, ast.Attribute) and not isinstance(part.ctx, ast.Load)
                self.assertFalse(changed and node.name != "__init__", node.name)
                self.assertNotIsInstance(part, ast.AugAssign, node.name)
            run = [body for name in names for body in bodies.get(name, [])]
            waiting += [body for body in run if body not in seen]

    def test_words(self):
        """L5, L17, L27"""
        for path, text in self.sources.items():
            self.assertNotRegex(text, r"\(type\)|Meta|metaclass=|dataclass|overload|contextmanager", path)
        for where, node in self.nodes(ast.Constant):
            if isinstance(node.value, str) and not re.search(r"\s", node.value):
                self.assertNotIn(node.value, UNUSED - {"open", "type", "id", "input"}, where)
                self.assertNotRegex(node.value, r"^__.*__$|\._$|\.__$", where)

    def test_methods_that_are_called(self):
        """L25, L26"""
        for where, node in self.nodes(ast.Call):
            if isinstance(node.func, ast.Attribute):
                self.assertIn(node.func.attr, METHODS | self.own_methods, where)
                if node.func.attr in METHODS:
                    self.assertEqual(node.keywords, [], where)

    def test_sets(self):
        """L24"""
        for path, tree in self.trees.items():
            fine = set()
            for node in ast.walk(tree):
                if isinstance(node, ast.Call) and isinstance(node.func, ast.Name) and node.func.id in ("sorted", "len"):
                    fine.update(id(part) for argument in node.args for part in self.joined(argument))
                if isinstance(node, ast.Compare):
                    fine.update(id(part) for each in [node.left] + node.comparators for part in self.joined(each))
                if isinstance(node, ast.Assign) and isinstance(node.targets[0], ast.Name):
                    fine.add(id(node.value))
            for node in ast.walk(tree):
                made = isinstance(node, ast.Call) and isinstance(node.func, ast.Name) and node.func.id == "set"
                if made or isinstance(node, (ast.Set, ast.SetComp)):
                    self.assertIn(id(node), fine, f"{path}:{node.lineno}")

    def joined(self, node):
        if isinstance(node, ast.BinOp):
            return self.joined(node.left) + self.joined(node.right)
        return [node]


if __name__ == "__main__":
    unittest.main()
