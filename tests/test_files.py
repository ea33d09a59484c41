"""Those rules of LANGUAGE.md that can be seen in a file's text and tree."""

import ast
import pathlib
import re
import unittest

PACKAGE = pathlib.Path(__file__).resolve().parent.parent / "ripepicks"
BARRED = ["type", "typing", "typing_extensions", "enum", "Enum", "IntEnum", "StrEnum", "Flag", "IntFlag", "Generic",
          "Protocol", "ABC", "ABCMeta", "namedtuple", "NamedTuple", "TypedDict", "TYPE_CHECKING", "abstractmethod"]
BUILTINS = {"len", "range", "enumerate", "zip", "min", "max", "sum", "abs", "sorted", "reversed", "int", "str", "bool",
            "list", "tuple", "dict", "set", "isinstance", "ord", "repr", "any", "all", "divmod", "iter", "next", "super",
            "ValueError", "LookupError", "RuntimeError", "TypeError", "KeyError"}


def files():
    """Pairs (file's name, its text)."""
    return [(path.name, path.read_bytes().decode()) for path in sorted(PACKAGE.glob("*.py"))]


def nodes():
    """Pairs (file's name, node), of all nodes of all files."""
    return [(name, node) for name, text in files() for node in ast.walk(ast.parse(text))]


class Files(unittest.TestCase):
    def test_folder(self):
        there = [path.name for path in PACKAGE.iterdir() if path.name != "__pycache__"]
        self.assertIn("__init__.py", there)
        self.assertEqual([name for name in there if not re.fullmatch("[a-z0-9_]+[.]py", name)], [])

    def test_sizes_and_characters(self):
        for name, text in files():
            self.assertRegex(text, r"\A[\n -~]*\Z", name)
            self.assertLessEqual(len(text.splitlines()), 400, name)
            self.assertLessEqual(max(map(len, text.splitlines())), 120, name)
        for name, node in nodes():
            if isinstance(node, ast.FunctionDef):
                self.assertLessEqual(node.end_lineno - node.lineno + 1, 40, (name, node.name))

    def test_barred_words(self):
        for name, text in files():
            self.assertEqual([word for word in BARRED if re.search(rf"\b{word}\b", text)], [], name)
            self.assertNotRegex(text, "dataclass|overload|contextmanager", name)

    def test_module_level(self):
        allowed = (ast.ImportFrom, ast.FunctionDef, ast.ClassDef, ast.Assign)
        for name, text in files():
            docstring, *rest = ast.parse(text).body
            self.assertIsInstance(docstring.value, ast.Constant, name)
            self.assertEqual([node for node in rest if not isinstance(node, allowed)], [], name)

    def test_imports(self):
        for name, node in nodes():
            self.assertNotIsInstance(node, ast.Import, name)
            if isinstance(node, ast.ImportFrom):
                self.assertEqual(node.level, 0, name)
                self.assertRegex(node.module, r"\Aripepicks[.][a-z]+\Z", name)
                defined = ast.parse((PACKAGE.parent / (node.module.replace(".", "/") + ".py")).read_text()).body
                self.assertLessEqual({each.name for each in node.names}, {getattr(each, "name", None) for each in defined})

    def test_names(self):
        for name, node in nodes():
            if isinstance(node, ast.Name):
                self.assertRegex(node.id, r"\A[A-Za-z]", name)
                if node.id in BUILTINS:
                    self.assertIsInstance(node.ctx, ast.Load, name)
            if isinstance(node, ast.arg):
                self.assertRegex(node.arg, r"\A[A-Za-z]", name)
                self.assertNotIn(node.arg, BUILTINS, name)

    def test_no_local_name_is_an_import_or_a_class(self):
        for name, text in files():
            tree = ast.parse(text)
            imported = {each.name for node in tree.body if isinstance(node, ast.ImportFrom) for each in node.names}
            bound = imported | {node.name for node in tree.body if isinstance(node, ast.ClassDef)}
            taken = {node.id for node in ast.walk(tree) if isinstance(node, ast.Name) and isinstance(node.ctx, ast.Store)}
            taken |= {node.arg for node in ast.walk(tree) if isinstance(node, ast.arg)}
            self.assertEqual(bound & taken, set(), name)
            self.assertEqual([word for word in imported if len(re.findall(rf"\b{word}\b", text)) < 2], [], name)

    def test_no_file_imports_itself_through_others(self):
        imports = {}
        for name, node in nodes():
            if isinstance(node, ast.ImportFrom):
                imports.setdefault(name, set()).add(node.module.partition(".")[2] + ".py")
        for name in imports:
            reached = set(imports[name])
            while more := {each for step in reached for each in imports.get(step, ())} - reached:
                reached |= more
            self.assertNotIn(name, reached)

    def test_no_method_is_an_attribute(self):
        methods = {each.name for name, node in nodes() if isinstance(node, ast.ClassDef) for each in node.body
                   if isinstance(each, ast.FunctionDef)}
        stored = {node.attr for name, node in nodes() if isinstance(node, ast.Attribute) and isinstance(node.ctx, ast.Store)}
        self.assertEqual(methods & stored, set())

    def test_one_lambda_a_line(self):
        places = [(name, node.lineno) for name, node in nodes() if isinstance(node, ast.Lambda)]
        self.assertEqual(len(set(places)), len(places))

    def test_iterated_at_once(self):
        lazy = {"zip", "enumerate", "reversed", "range", "items", "keys", "values"}
        takers = {"list", "tuple", "dict", "sorted", "sum", "any", "all", "enumerate", "zip"}
        for name, node in nodes():
            for field, child in [(field, each) for field, part in ast.iter_fields(node)
                                 for each in (part if isinstance(part, list) else [part]) if isinstance(each, ast.Call)]:
                if getattr(child.func, "id", getattr(child.func, "attr", None)) in lazy:
                    taken = isinstance(node, ast.Call) and field == "args" and getattr(node.func, "id", None) in takers
                    self.assertTrue(taken or field == "iter", (name, child.lineno))

    def test_finally_only_ends_the_log(self):
        for name, node in nodes():
            for each in node.finalbody if isinstance(node, ast.Try) else []:
                self.assertRegex(ast.unparse(each), r"\Aself[.]ends[.]append[(][(]'out', '[a-z]+'[)][)]\Z", name)

    def test_double_underscore_methods(self):
        # No operator stands among them: beside one, far fewer signs could be used in all files.
        allowed = {"__init__", "__eq__", "__len__", "__repr__"}
        for name, node in nodes():
            if isinstance(node, ast.FunctionDef) and node.name.startswith("__"):
                self.assertIn(node.name, allowed, name)
                if node.name in ("__eq__", "__len__", "__repr__"):
                    self.assertEqual([type(each) for each in node.body], [ast.Return], (name, node.name))

    def test_own_errors_alone_are_caught_and_made_on_the_spot(self):
        own = {node.name for node in ast.parse((PACKAGE / "errors.py").read_text()).body if isinstance(node, ast.ClassDef)}
        for name, node in nodes():
            if isinstance(node, ast.ExceptHandler):
                self.assertIn(node.type.id, own, name)
            if isinstance(node, ast.Raise):
                self.assertIsInstance(node.exc, ast.Call, name)
                self.assertIn(node.exc.func.id, own, name)

    def test_tables_at_module_level_are_flat(self):
        for name, text in files():
            for node in ast.parse(text).body:
                if isinstance(node, ast.Assign) and isinstance(node.value, (ast.Dict, ast.List)):
                    inner = [each for each in ast.walk(node.value) if each != node.value]
                    self.assertEqual([each for each in inner if isinstance(each, (ast.Dict, ast.List, ast.Call))], [], name)

    def test_no_barred_syntax(self):
        # Generator expressions are let go beside a class with __eq__ only in few places: none is used.
        barred = (ast.GeneratorExp, ast.Global, ast.AsyncFunctionDef, ast.Await, ast.Div, ast.Pow, ast.AnnAssign)
        for name, node in nodes():
            self.assertNotIsInstance(node, barred, name)
            if isinstance(node, ast.Constant):
                self.assertNotIsInstance(node.value, (float, complex), name)
                self.assertNotIn("%", str(node.value), name)
            if isinstance(node, ast.ExceptHandler):
                self.assertIsNotNone(node.type, name)


if __name__ == "__main__":
    unittest.main()
