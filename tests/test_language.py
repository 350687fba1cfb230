"""The rules of the language that can be seen in the files alone."""

import ast
import builtins
import pathlib
import re
import unittest

PACKAGE = pathlib.Path(__file__).resolve().parent.parent / "fontgap"
FILES = sorted(PACKAGE.rglob("*.py"))
TREES = {path: ast.parse(path.read_text(encoding="ascii")) for path in FILES}

LIBRARY = {"math": {"gcd", "lcm", "isqrt", "comb", "perm", "factorial"},
           "heapq": {"heappush", "heappop", "heapify", "heapreplace", "heappushpop"},
           "itertools": {"product", "combinations", "permutations", "chain", "accumulate", "pairwise", "islice",
                         "zip_longest"},
           "collections": {"defaultdict"},
           "__future__": {"annotations"}}
ALLOWED = set("""len range enumerate zip min max sum abs sorted reversed int str bool bytes list tuple dict set
    frozenset isinstance ord repr any all divmod pow getattr hasattr setattr iter next map property staticmethod
    classmethod super Exception ValueError TypeError KeyError IndexError LookupError ZeroDivisionError ArithmeticError
    OverflowError RuntimeError NotImplementedError AttributeError StopIteration NotImplemented object""".split())
BARRED = set("""typing typing_extensions enum Enum IntEnum StrEnum Flag IntFlag Generic Protocol ABC ABCMeta
    namedtuple NamedTuple TypedDict TYPE_CHECKING abstractmethod dataclass overload contextmanager
    register mro elements open input law version_info with_traceback add_note""".split())
INTERFACE = {"errors": ["FontError"], "ratios": ["Ratio"], "fonts": ["Font", "BLANK"],
             "notation": ["write_font", "read_font", "width_table"],
             "shaping": ["shape", "width", "widths", "placed", "Gauge"],
             "reader": ["Reader"], "joined": ["Joined"],
             "bounds": ["Extreme", "extreme", "worst_rate", "spread", "greatest_gap"],
             "fit": ["overflow", "least_widening", "overflow_by_length"],
             "breaking": ["break_lines", "line_widths"], "claims": ["Claim", "GapBound", "SameWidths"],
             "lineclaims": ["Fits", "SameBreaks"], "kerning": ["meeting", "idle_kerns", "tidy", "needless"],
             "survey": ["Survey"], "library": ["Library"]}
METHODS = {"Ratio": "__init__ __add__ __sub__ __mul__ __neg__ __abs__ __eq__ __str__ __repr__ compare floor ceiling read",
           "Font": """__init__ even glyphs kerns advance_of __getitem__ __setitem__ kern_of __contains__ __len__ __eq__
                      letters ligatures blank changes set_advance set_advances set_kern drop set_blank apply undo
                      copy""",
           "Gauge": "__init__ __call__ total",
           "Reader": "__init__ feed finish pending last total",
           "Joined": "__init__ letters __len__ state step finish run widths shortest edges",
           "Claim": "__init__ holds describe", "GapBound": "__init__ decide judge describe",
           "SameWidths": "decide judge describe", "Fits": "__init__ decide judge describe",
           "SameBreaks": "__init__ decide judge describe",
           "Survey": "__init__ unknowns recorded missing record told explain doubt advance_of kern_of",
           "Library": """__init__ names decisions put drop font edit undo watch unwatch report certificate"""}


def nodes(*kinds):
    """Return (place, node) for each node of these kinds in the package."""
    return [(f"{path.name}:{node.lineno}", node) for path, tree in TREES.items() for node in ast.walk(tree)
            if isinstance(node, kinds)]


def decorated():
    """Return (name of the method, its decorator or "") for each method of the package."""
    found = []
    for place, node in nodes(ast.ClassDef):
        for method in node.body:
            if isinstance(method, ast.FunctionDef):
                words = [ast.unparse(word) for word in method.decorator_list]
                found.append((method.name, words[0].rpartition(".")[2] if words else ""))
    return found


def bound_names():
    """Return (place, name) for each name that the package binds by a definition, a parameter or an assignment."""
    found = [(place, node.name) for place, node in nodes(ast.ClassDef)]
    found += [(path.name, node.name) for path, tree in TREES.items() for node in tree.body
              if isinstance(node, ast.FunctionDef)]
    for place, node in nodes(ast.FunctionDef, ast.Lambda):
        groups = node.args
        arguments = groups.posonlyargs + groups.args + groups.kwonlyargs + [groups.vararg, groups.kwarg]
        found += [(place, argument.arg) for argument in arguments if argument]
    return found + [(place, node.id) for place, node in nodes(ast.Name) if isinstance(node.ctx, ast.Store)]


class FilesTest(unittest.TestCase):
    def test_the_folder_contains_python_files_only(self):
        for path in PACKAGE.rglob("*"):
            if "__pycache__" not in path.parts:
                self.assertRegex(path.name, r"^[a-z0-9_]+(\.py)?$")
                self.assertTrue(path.suffix == ".py" or (path / "__init__.py").exists(), path)

    def test_characters(self):
        for path in FILES:
            self.assertRegex(path.read_text(encoding="ascii"), r"\A[ -~\n]*\Z")

    def test_sizes(self):
        for path in FILES:
            lines = path.read_text(encoding="ascii").split("\n")
            self.assertLessEqual(len(lines), 399, path)
            self.assertLessEqual(max(len(line) for line in lines), 120, path)
        for place, node in nodes(ast.FunctionDef):
            self.assertLessEqual(node.end_lineno - node.lineno + 1, 40, place)

    def test_interface_stands_in_its_files(self):
        for module, names in INTERFACE.items():
            body = TREES[PACKAGE / f"{module}.py"].body
            there = [node.name for node in body if isinstance(node, (ast.ClassDef, ast.FunctionDef))]
            there += [target.id for node in body if isinstance(node, ast.Assign) for target in node.targets]
            for name in names:
                self.assertIn(name, there)

    def test_methods_stand_in_their_classes(self):
        classes = {node.name: node for place, node in nodes(ast.ClassDef)}
        for name, methods in METHODS.items():
            there = [node.name for node in classes[name].body if isinstance(node, ast.FunctionDef)]
            self.assertEqual(sorted(set(methods.split()) - set(there)), [], name)


class RulesTest(unittest.TestCase):
    def test_imports(self):
        self.assertEqual([place for place, node in nodes(ast.Import)], [])
        for place, node in nodes(ast.ImportFrom):
            self.assertEqual(node.level, 0, place)
            names = {alias.name for alias in node.names}
            if node.module in LIBRARY:
                self.assertLessEqual(names, LIBRARY[node.module], place)
            else:
                self.assertTrue(node.module.startswith("fontgap."), place)
                self.assertTrue((PACKAGE / f"{node.module.partition('.')[2]}.py").exists(), place)
            self.assertNotIn("*", names, place)

    def test_builtins(self):
        for place, node in nodes(ast.Name):
            if hasattr(builtins, node.id) and isinstance(node.ctx, ast.Load):
                self.assertIn(node.id, ALLOWED, place)

    def test_no_builtin_is_given_another_meaning(self):
        for place, name in bound_names():
            self.assertFalse(hasattr(builtins, name), (place, name))

    def test_no_barred_words(self):
        for path in FILES:
            words = set(re.findall(r"[A-Za-z_]+", path.read_text(encoding="ascii")))
            self.assertEqual(sorted(words & BARRED), [], path)

    def test_no_floats_no_true_division_no_other_statements(self):
        for place, node in nodes(ast.Constant):
            self.assertNotIsInstance(node.value, (float, complex), place)
        for place, node in nodes(ast.BinOp, ast.AugAssign):
            self.assertNotIsInstance(node.op, (ast.Div, ast.MatMult), place)
        self.assertEqual([place for place, node in nodes(ast.Global, ast.AsyncFunctionDef, ast.Await)], [])

    def test_no_percent_sign_in_strings(self):
        for place, node in nodes(ast.Constant):
            if isinstance(node.value, str):
                self.assertNotIn("%", node.value, place)

    def test_static_methods_and_properties_share_no_name_with_other_methods(self):
        for kinds in ({"staticmethod", "classmethod"}, {"property", "setter"}):
            special = {name for name, word in decorated() if word in kinds}
            others = {name for name, word in decorated() if word not in kinds}
            attributes = {node.attr for place, node in nodes(ast.Attribute) if isinstance(node.ctx, ast.Store)}
            if "property" in kinds:
                attributes = set()
            self.assertEqual(special & (others | attributes), set())

    def test_generators_share_no_name_with_other_functions(self):
        functions = [node for place, node in nodes(ast.FunctionDef)]
        generators = [node.name for node in functions
                      if any(isinstance(part, (ast.Yield, ast.YieldFrom)) for part in ast.walk(node))]
        for name in generators:
            self.assertEqual([node.name for node in functions].count(name), 1, name)

    def test_no_two_files_import_from_each_other(self):
        uses = {path.stem: {node.module.partition(".")[2] for node in ast.walk(tree) if isinstance(node, ast.ImportFrom)
                            and node.module.startswith("fontgap.")} for path, tree in TREES.items()}
        done = []
        while len(done) < len(uses):
            ready = [name for name in uses if name not in done and uses[name] <= set(done)]
            self.assertNotEqual(ready, [])
            done += ready

    def test_names_of_classes_and_imports_have_no_other_meaning(self):
        for path, tree in TREES.items():
            taken = {alias.name for node in ast.walk(tree) if isinstance(node, ast.ImportFrom) for alias in node.names}
            taken |= {node.name for node in tree.body if isinstance(node, ast.ClassDef)}
            local = {node.id for node in ast.walk(tree) if isinstance(node, ast.Name) and isinstance(node.ctx, ast.Store)}
            local |= {node.arg for node in ast.walk(tree) if isinstance(node, ast.arg)}
            self.assertEqual(taken & local, set(), path)

    def test_no_attribute_has_the_name_of_a_method_of_builtin_values(self):
        taken = {name for kind in (str, bytes, int, list, dict, set) for name in dir(kind)} - {
            "count", "index", "title", "find", "get", "join", "lower", "upper", "split", "strip", "copy", "add"}
        for place, node in nodes(ast.Attribute):
            if isinstance(node.ctx, ast.Store):
                self.assertNotIn(node.attr, taken, place)

    def test_no_name_is_a_method_and_an_attribute(self):
        methods = {name for name, word in decorated() if word == ""}
        for place, node in nodes(ast.Attribute):
            if isinstance(node.ctx, ast.Store):
                self.assertNotIn(node.attr, methods, place)

    def test_functions_that_take_many_values_get_lists(self):
        for place, node in nodes(ast.GeneratorExp):
            self.fail(place)
        for place, node in nodes(ast.Call):
            if isinstance(node.func, ast.Attribute):
                self.assertNotEqual(node.func.attr, "sort", place)

    def test_errors_are_caught_by_name(self):
        for place, node in nodes(ast.ExceptHandler):
            self.assertIsNotNone(node.type, place)
            self.assertNotIn(ast.unparse(node.type), ("Exception", "BaseException"), place)


if __name__ == "__main__":
    unittest.main()
