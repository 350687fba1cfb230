"""The rules of the language that can be seen in the files alone."""

import ast
import builtins
import pathlib
import re
import unittest

PACKAGE = pathlib.Path(__file__).resolve().parent.parent / "fontgap"
FILES = sorted(PACKAGE.rglob("*.py"))
TREES = {path: ast.parse(path.read_text(encoding="ascii")) for path in FILES}

LIBRARY = {"math": {"gcd", "lcm", "isqrt", "comb", "perm", "factorial"},
           "heapq": {"heappush", "heappop", "heapify", "heapreplace", "heappushpop"},
           "itertools": {"product", "combinations", "permutations", "chain", "accumulate", "pairwise", "islice",
                         "zip_longest"},
           "collections": {"defaultdict"},
           "__future__": {"annotations"}}
ALLOWED = set("""len range enumerate zip min max sum abs sorted reversed int str bool bytes list tuple dict set
    frozenset isinstance ord repr any all divmod pow getattr hasattr setattr iter next map property staticmethod
    classmethod super Exception ValueError TypeError KeyError IndexError LookupError ZeroDivisionError ArithmeticError
    OverflowError RuntimeError NotImplementedError AttributeError StopIteration NotImplemented object""".split())
BARRED = set("""typing typing_extensions enum Enum IntEnum StrEnum Flag IntFlag Generic Protocol ABC ABCMeta
    namedtuple NamedTuple TypedDict TYPE_CHECKING abstractmethod dataclass overload contextmanager
    register mro elements open input law version_info with_traceback add_note""".split())
INTERFACE = {"errors": ["FontError"], "ratios": ["Ratio"], "fonts": ["Font", "BLANK"]}


def nodes(*kinds):
    """Return (place, node) for each node of these kinds in the package."""
    return [(f"{path.name}:{node.lineno}", node) for path, tree in TREES.items() for node in ast.walk(tree)
            if isinstance(node, kinds)]


def bound_names():
    """Return (place, name) for each name that the package binds by a definition, a parameter or an assignment."""
    found = [(place, node.name) for place, node in nodes(ast.ClassDef)]
    found += [(path.name, node.name) for path, tree in TREES.items() for node in tree.body
              if isinstance(node, ast.FunctionDef)]
    for place, node in nodes(ast.FunctionDef, ast.Lambda):
        groups = node.args
        arguments = groups.posonlyargs + groups.args + groups.kwonlyargs + [groups.vararg, groups.kwarg]
        found += [(place, argument.arg) for argument in arguments if argument]
    return found + [(place, node.id) for place, node in nodes(ast.Name) if isinstance(node.ctx, ast.Store)]


class FilesTest(unittest.TestCase):
    def test_the_folder_contains_python_files_only(self):
        for path in PACKAGE.rglob("*"):
            if "__pycache__" not in path.parts:
                self.assertRegex(path.name, r"^[a-z0-9_]+(\.py)?$")
                self.assertTrue(path.suffix == ".py" or (path / "__init__.py").exists(), path)

    def test_characters(self):
        for path in FILES:
            self.assertRegex(path.read_text(encoding="ascii"), r"\A[ -~\n]*\Z")

    def test_sizes(self):
        for path in FILES:
            lines = path.read_text(encoding="ascii").split("\n")
            self.assertLessEqual(len(lines), 399, path)
            self.assertLessEqual(max(len(line) for line in lines), 120, path)
        for place, node in nodes(ast.FunctionDef):
            self.assertLessEqual(node.end_lineno - node.lineno + 1, 40, place)

    def test_interface_stands_in_its_files(self):
        for module, names in INTERFACE.items():
            body = TREES[PACKAGE / f"{module}.py"].body
            there = [node.name for node in body if isinstance(node, (ast.ClassDef, ast.FunctionDef))]
            there += [target.id for node in body if isinstance(node, ast.Assign) for target in node.targets]
            for name in names:
                self.assertIn(name, there)


class RulesTest(unittest.TestCase):
    def test_imports(self):
        self.assertEqual([place for place, node in nodes(ast.Import)], [])
        for place, node in nodes(ast.ImportFrom):
            self.assertEqual(node.level, 0, place)
            names = {alias.name for alias in node.names}
            if node.module in LIBRARY:
                self.assertLessEqual(names, LIBRARY[node.module], place)
            else:
                self.assertTrue(node.module.startswith("fontgap."), place)
                self.assertTrue((PACKAGE / f"{node.module.partition('.')[2]}.py").exists(), place)
            self.assertNotIn("*", names, place)

    def test_builtins(self):
        for place, node in nodes(ast.Name):
            if hasattr(builtins, node.id) and isinstance(node.ctx, ast.Load):
                self.assertIn(node.id, ALLOWED, place)

    def test_no_builtin_is_given_another_meaning(self):
        for place, name in bound_names():
            self.assertFalse(hasattr(builtins, name), (place, name))

    def test_no_barred_words(self):
        for path in FILES:
            words = set(re.findall(r"[A-Za-z_]+", path.read_text(encoding="ascii")))
            self.assertEqual(sorted(words & BARRED), [], path)

    def test_no_floats_no_true_division_no_other_statements(self):
        for place, node in nodes(ast.Constant):
            self.assertNotIsInstance(node.value, (float, complex), place)
        for place, node in nodes(ast.BinOp, ast.AugAssign):
            self.assertNotIsInstance(node.op, (ast.Div, ast.MatMult), place)
        self.assertEqual([place for place, node in nodes(ast.Global, ast.AsyncFunctionDef, ast.Await)], [])

    def test_no_percent_sign_in_strings(self):
        for place, node in nodes(ast.Constant):
            if isinstance(node.value, str):
                self.assertNotIn("%", node.value, place)

    def test_errors_are_caught_by_name(self):
        for place, node in nodes(ast.ExceptHandler):
            self.assertIsNotNone(node.type, place)
            self.assertNotIn(ast.unparse(node.type), ("Exception", "BaseException"), place)


if __name__ == "__main__":
    unittest.main()
