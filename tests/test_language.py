import ast
import builtins
import pathlib
import re
import unittest

PACKAGE = pathlib.Path(__file__).resolve().parent.parent / "markshome"
FILES = sorted(PACKAGE.rglob("*.py"))
BUILTINS = {"len", "range", "enumerate", "zip", "min", "max", "sum", "abs", "sorted", "reversed", "int", "str", "bool",
            "list", "tuple", "dict", "set", "isinstance", "ord", "repr", "any", "all", "divmod", "iter", "map",
            "property", "ValueError", "KeyError", "NotImplemented"}
METHODS = set("""append clear copy count endswith extend find get index insert isalnum isalpha isdigit islower isspace
              isupper items join keys ljust lower lstrip partition pop remove replace reverse rfind rjust rpartition
              rsplit rstrip setdefault split splitlines startswith strip update upper values zfill add discard
              """.split())
OPERATORS = {"__init__", "__eq__", "__iter__", "__contains__", "__sub__", "__add__", "__bool__"}
LIBRARY = {"itertools": {"combinations", "product", "permutations"}, "math": {"comb", "perm", "factorial", "gcd"}}
BARRED = re.compile(r"\b(type|typing|typing_extensions|enum|Enum|IntEnum|StrEnum|Flag|IntFlag|Generic|Protocol|ABC|"
                    r"ABCMeta|namedtuple|NamedTuple|TypedDict|TYPE_CHECKING|abstractmethod)\b|dataclass|overload|"
                    r"contextmanager")
UNUSED = {"register", "mro", "elements", "open", "input", "law", "version_info", "with_traceback", "add_note"}
STATEMENTS = (ast.Assign, ast.AugAssign, ast.If, ast.While, ast.For, ast.Return, ast.Break, ast.Continue, ast.Pass,
              ast.Raise, ast.Try, ast.Expr, ast.FunctionDef, ast.ClassDef, ast.ImportFrom)


def nodes(path, kind):
    """All nodes of a kind in a file."""
    return [node for node in ast.walk(ast.parse(path.read_text())) if isinstance(node, kind)]


def texts(path):
    """All string literals of a file but its docstrings."""
    told = set()
    for node in nodes(path, (ast.Module, ast.ClassDef, ast.FunctionDef)):
        if node.body and isinstance(node.body[0], ast.Expr):
            told.add((node.body[0].value.lineno, node.body[0].value.col_offset))
    return [node.value for node in nodes(path, ast.Constant)
            if isinstance(node.value, str) and (node.lineno, node.col_offset) not in told]


def without_strings(path):
    """The text of a file without its comments and docstrings, as Python writes it."""
    return ast.unparse(ast.parse(re.sub(r'"""(.|\n)*?"""', '""', path.read_text())))


class FilesTest(unittest.TestCase):
    def test_the_package_holds_python_files_only(self):
        self.assertTrue((PACKAGE / "__init__.py").exists())
        for path in PACKAGE.rglob("*"):
            if "__pycache__" not in path.parts:
                self.assertRegex(path.name, r"^[a-z_0-9]+\.py$")

    def test_signs_and_sizes(self):
        for path in FILES:
            text = path.read_text()
            self.assertRegex(text, r"\A[ -~\n]*\Z", path.name)
            self.assertLessEqual(len(text.splitlines()), 399, path.name)
            self.assertLessEqual(max(len(row) for row in text.splitlines()), 120, path.name)
            for node in nodes(path, ast.FunctionDef):
                self.assertLessEqual(node.end_lineno - node.lineno + 1, 40, node.name)

    def test_barred_words(self):
        for path in FILES:
            self.assertIsNone(BARRED.search(without_strings(path)), path.name)
            self.assertNotIn("_wall", path.read_text(), path.name)

    def test_strings(self):
        for path in FILES:
            for text in texts(path):
                self.assertNotIn("%", text)
                self.assertFalse(text.startswith("__") and text.endswith("__"), text)


class CodeTest(unittest.TestCase):
    def test_imports(self):
        for path in FILES:
            self.assertEqual(nodes(path, ast.Import), [])
            for node in nodes(path, ast.ImportFrom):
                self.assertEqual(node.level, 0)
                for alias in node.names:
                    self.assertIsNone(alias.asname)
                    if node.module in LIBRARY:
                        self.assertIn(alias.name, LIBRARY[node.module])
                    else:
                        package, module = node.module.split(".")
                        self.assertEqual(package, "markshome")
                        self.assertIn(alias.name, self.defined(PACKAGE / f"{module}.py"), path.name)

    def test_every_import_is_used(self):
        for path in FILES:
            taken = {alias.name for node in nodes(path, ast.ImportFrom) for alias in node.names}
            self.assertEqual(taken - {node.id for node in nodes(path, ast.Name)}, set(), path.name)

    def defined(self, path):
        body = ast.parse(path.read_text()).body
        names = [node.name for node in body if isinstance(node, (ast.FunctionDef, ast.ClassDef))]
        return names + [node.targets[0].id for node in body if isinstance(node, ast.Assign)]

    def test_no_circle_of_imports(self):
        needs = {path.stem: {node.module.split(".")[1] for node in nodes(path, ast.ImportFrom)
                             if node.module.startswith("markshome.")} for path in FILES}
        while needs:
            free = [name for name in needs if not needs[name] & set(needs)]
            self.assertTrue(free, needs)
            for name in free:
                del needs[name]

    def test_statements_and_expressions(self):
        for path in FILES:
            for node in nodes(path, ast.stmt):
                self.assertIsInstance(node, STATEMENTS, f"{path.name} {node.lineno}")
            for kind in [ast.GeneratorExp, ast.Lambda, ast.Div, ast.Await, ast.Yield, ast.YieldFrom, ast.AnnAssign,
                         ast.NamedExpr, ast.MatMult, ast.SetComp, ast.Set]:
                self.assertEqual(nodes(path, kind), [], path.name)
            self.assertEqual([node for node in nodes(path, ast.Constant) if isinstance(node.value, (float, complex))],
                             [])
            for node in nodes(path, ast.Compare):
                for sign, right in zip(node.ops, node.comparators):
                    if isinstance(sign, (ast.Is, ast.IsNot)):
                        self.assertIsInstance(right, ast.Constant)

    def test_errors_that_are_caught(self):
        own = self.defined(PACKAGE / "errors.py")
        for path in FILES:
            for node in nodes(path, ast.Try):
                self.assertEqual(node.finalbody, [], path.name)
                for handler in node.handlers:
                    self.assertIn(handler.type.id, own, path.name)

    def test_builtins(self):
        for path in FILES:
            for node in nodes(path, ast.Name):
                if node.id in dir(builtins):
                    self.assertIn(node.id, BUILTINS, path.name)
                    self.assertIsInstance(node.ctx, ast.Load, path.name)
            for node in nodes(path, ast.arg):
                self.assertNotIn(node.arg, dir(builtins), path.name)
                self.assertIsNone(node.annotation)

    def test_no_name_is_an_import_of_the_file(self):
        for path in FILES:
            taken = {alias.name for node in nodes(path, ast.ImportFrom) for alias in node.names}
            taken |= {node.name for node in nodes(path, ast.ClassDef)}
            bound = {node.id for node in nodes(path, ast.Name) if isinstance(node.ctx, ast.Store)}
            bound |= {node.arg for node in nodes(path, ast.arg)}
            self.assertEqual(taken & bound, set(), path.name)
            self.assertEqual(bound & UNUSED, set(), path.name)

    def test_methods(self):
        own = {node.name for path in FILES for kind in nodes(path, ast.ClassDef) for node in kind.body
               if isinstance(node, ast.FunctionDef)}
        for path in FILES:
            for node in nodes(path, ast.Call):
                if isinstance(node.func, ast.Attribute):
                    self.assertIn(node.func.attr, METHODS | own, path.name)
        for name in own:
            self.assertTrue(not name.startswith("__") or name in OPERATORS, name)
            self.assertNotIn(name, UNUSED)

    def test_sets_are_measured_or_sorted_on_the_spot(self):
        for path in FILES:
            inside = [node.args[0] for node in nodes(path, ast.Call)
                      if isinstance(node.func, ast.Name) and node.func.id in ("len", "sorted")]
            made = [node for node in nodes(path, ast.Call)
                    if isinstance(node.func, ast.Name) and node.func.id == "set"]
            spots = {(node.lineno, node.col_offset) for node in inside}
            for node in made:
                self.assertIn((node.lineno, node.col_offset), spots, path.name)

    def test_decorators(self):
        for path in FILES:
            for node in nodes(path, (ast.FunctionDef, ast.ClassDef)):
                for mark in node.decorator_list:
                    self.assertEqual(ast.unparse(mark), "property")


if __name__ == "__main__":
    unittest.main()
