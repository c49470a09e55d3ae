"""The rules of LANGUAGE.md that can be seen in a file by itself, for every file of the package."""

import ast
import builtins
import pathlib
import re
import unittest

PACKAGE = pathlib.Path(__file__).resolve().parent.parent / "fullrooms"
BUILTINS = """
    len range enumerate zip min max sum abs sorted reversed int str bool bytes list tuple dict set frozenset
    isinstance ord repr any all divmod iter next super property staticmethod classmethod Exception ValueError
    TypeError KeyError IndexError LookupError ZeroDivisionError ArithmeticError OverflowError RuntimeError
    NotImplementedError AttributeError StopIteration NotImplemented
""".split()
BARRED_WORDS = """
    type typing typing_extensions enum Enum IntEnum StrEnum Flag IntFlag Generic Protocol ABC ABCMeta namedtuple
    NamedTuple TypedDict TYPE_CHECKING abstractmethod
""".split()
BARRED_NAMES = """
    register mro elements open input version_info with_traceback add_note attrgetter breakpoint builtins compile
    copyright credits delattr dir eval exec exit gc getattr globals hasattr help id importlib license locals
    methodcaller os quit setattr vars sys print chr format format_map
""".split()
DUNDERS = """
    __init__ __eq__ __repr__ __str__ __len__ __enter__ __exit__ __call__ __iter__ __name__ __slots__
""".split()
METHODS = """
    append clear copy count endswith extend find get index insert isalnum isalpha isdigit islower isspace isupper
    items join keys ljust lower lstrip partition pop remove replace reverse rfind rjust rpartition rsplit rstrip
    setdefault split splitlines startswith strip update upper values zfill bit_length add discard
""".split()
AT_ONCE = ("zip", "enumerate", "reversed", "range")


def files():
    return sorted(path for path in PACKAGE.rglob("*") if "__pycache__" not in path.parts)


def trees():
    return [(path.name, ast.parse(path.read_text())) for path in files()]


def nodes(*kinds):
    return [(name, node) for name, tree in trees() for node in ast.walk(tree) if isinstance(node, kinds)]


def names():
    """Every name that stands in the package's code, with its file and line."""
    for file, node in nodes(ast.Name, ast.Attribute, ast.arg, ast.FunctionDef, ast.ClassDef, ast.alias, ast.keyword):
        for field in ("id", "attr", "arg", "name", "asname"):
            if isinstance(getattr(node, field, None), str):
                yield f"{file}:{node.lineno}", getattr(node, field)


def called(node):
    """The plain name that is called, if one is."""
    return node.func.id if isinstance(node, ast.Call) and isinstance(node.func, ast.Name) else None


class Language(unittest.TestCase):

    def test_files(self):
        self.assertTrue((PACKAGE / "__init__.py").is_file())
        for path in files():
            self.assertRegex(path.name, r"^[a-z_][a-z0-9_]*\.py$", "L1, L14")
            self.assertNotIn(path.stem, [*dir(builtins), *BARRED_WORDS], "L14")

    def test_signs_and_sizes(self):
        for path in files():
            text = path.read_bytes().decode("ascii")
            self.assertRegex(text, r"^[\n -~]*$", "L14")
            lines = text.split("\n")
            self.assertLessEqual(len(lines), 401, "L10")
            for at, line in enumerate(lines):
                self.assertLessEqual(len(line), 120, f"L10 {path.name}:{at + 1}")
        for name, node in nodes(ast.FunctionDef):
            self.assertLessEqual(node.end_lineno - node.lineno + 1, 40, f"L10 {name}:{node.lineno}")

    def test_words(self):
        for path in files():
            text = path.read_text()
            for word in BARRED_WORDS:
                self.assertIsNone(re.search(rf"\b{word}\b", text), f"L17 {word} {path.name}")
            for word in ("dataclass", "overload", "contextmanager"):
                self.assertNotIn(word, text, f"L17 {path.name}")

    def test_names(self):
        for where, name in names():
            for part in name.split("."):
                self.assertTrue(part in DUNDERS or re.match(r"^[A-Za-z][A-Za-z0-9_]*$", part), f"L12 {where} {name}")
                self.assertNotIn(part, BARRED_NAMES, f"L17 {where}")
                self.assertTrue(part in BUILTINS or not is_builtin(part), f"L8 {where} {name}")

    def test_imports(self):
        for name, node in nodes(ast.Import):
            self.fail(f"L16 {name}:{node.lineno}")
        for name, node in nodes(ast.ImportFrom):
            self.assertEqual(0, node.level, f"L2 {name}:{node.lineno}")
            self.assertRegex(node.module, r"^(fullrooms\.[a-z_]+|__future__)$", f"L2 {name}:{node.lineno}")
            self.assertNotIn("*", [alias.name for alias in node.names], f"L2 {name}:{node.lineno}")

    def test_values(self):
        for name, node in nodes(ast.Constant):
            self.assertNotIsInstance(node.value, (float, complex), f"L7 {name}:{node.lineno}")
            if isinstance(node.value, str):
                self.assertNotIn("%", node.value, f"L27 {name}:{node.lineno}")
        for name, node in nodes(ast.Div, ast.Global, ast.AsyncFunctionDef, ast.Await):
            self.fail(f"L6, L7 {name}")

    def test_is(self):
        for name, node in nodes(ast.Compare):
            for sign, right in zip(node.ops, node.comparators):
                if isinstance(sign, (ast.Is, ast.IsNot)):
                    plain = isinstance(right, ast.Constant) and right.value in (None, True, False)
                    self.assertTrue(plain, f"L20 {name}:{node.lineno}")

    def test_iterated_at_once(self):
        for name, node in nodes(ast.Assign, ast.Return):
            self.assertNotIn(called(node.value), AT_ONCE, f"L23 {name}:{node.lineno}")

    def test_lists_for_what_may_meet_own_objects(self):
        for name, node in nodes(ast.Call):
            if called(node) in ("any", "all", "min", "max", "sum", "sorted"):
                kinds = [type(told) for told in node.args]
                self.assertNotIn(ast.GeneratorExp, kinds, f"L7 {name}:{node.lineno}")

    def test_methods(self):
        own = [row.name for name, node in nodes(ast.ClassDef) for row in node.body if isinstance(row, ast.FunctionDef)]
        for name, node in nodes(ast.Call):
            if isinstance(node.func, ast.Attribute):
                self.assertIn(node.func.attr, METHODS + own, f"L25 {name}:{node.lineno}")

    def test_what_stands_behind_a_star_in_a_call(self):
        plain = (ast.Name, ast.Attribute, ast.Constant, ast.List, ast.Tuple, ast.Dict)
        for name, node in nodes(ast.Call):
            for told in node.args:
                if isinstance(told, ast.Starred):
                    self.assertIsInstance(told.value, plain, f"L7 {name}:{node.lineno}")

    def test_where_sets_are_written(self):
        for name, tree in trees():
            placed = []
            for node in ast.walk(tree):
                if called(node) in ("sorted", "len"):
                    placed += node.args
                if isinstance(node, ast.Compare):
                    placed += [node.left, *node.comparators]
                if isinstance(node, ast.Assign) and isinstance(node.targets[0], ast.Name):
                    placed.append(node.value)
            for node in ast.walk(tree):
                if isinstance(node, (ast.Set, ast.SetComp)) or called(node) == "set":
                    self.assertIn(node, placed, f"L24 {name}:{node.lineno}")

    def test_no_two_files_import_from_each_other(self):
        leads = {name[:-3]: [] for name, tree in trees()}
        for name, node in nodes(ast.ImportFrom):
            leads[name[:-3]].append(node.module.split(".")[-1])
        while leads:
            ends = [name for name, others in leads.items() if not [other for other in others if other in leads]]
            self.assertNotEqual([], ends, "L16")
            leads = {name: others for name, others in leads.items() if name not in ends}

    def test_module_level(self):
        for name, tree in trees():
            for node in tree.body:
                plain = (ast.ImportFrom, ast.FunctionDef, ast.ClassDef, ast.Assign)
                doc = isinstance(node, ast.Expr) and isinstance(node.value, ast.Constant)
                self.assertTrue(doc or isinstance(node, plain), f"L3 {name}:{node.lineno}")
            bound = [node.name for node in tree.body if isinstance(node, (ast.FunctionDef, ast.ClassDef))]
            bound += [node.targets[0].id for node in tree.body if isinstance(node, ast.Assign)]
            bound += [alias.asname or alias.name for node in tree.body if isinstance(node, ast.ImportFrom)
                      for alias in node.names]
            self.assertEqual(len(set(bound)), len(bound), f"L15 {name}")

    def test_no_name_is_a_method_and_an_attribute(self):
        rows = [row for name, node in nodes(ast.ClassDef) for row in node.body]
        methods = {row.name for row in rows if isinstance(row, ast.FunctionDef)}
        stored = {node.attr for name, node in nodes(ast.Attribute) if isinstance(node.ctx, ast.Store)}
        self.assertEqual(set(), methods & stored, "L18")
        # One reading of the files, so that what is called can be known again.
        read = nodes(ast.Attribute, ast.Call)
        called_off = [node.func for name, node in read if isinstance(node, ast.Call)]
        for name, node in read:
            if isinstance(node, ast.Attribute) and node not in called_off:
                self.assertIn(node.attr, stored, f"L18 {name}:{node.lineno}")

    def test_what_compares_and_shows_changes_nothing(self):
        for name, node in nodes(ast.FunctionDef):
            if node.name in ("__eq__", "__str__", "__len__", "__repr__"):
                changing = (ast.Assign, ast.AugAssign, ast.AnnAssign, ast.Delete, ast.NamedExpr)
                for row in ast.walk(node):
                    self.assertNotIsInstance(row, changing, f"L28 {name}:{node.lineno}")
                self.assertIsInstance(node.body[-1], ast.Return, f"L28 {name}:{node.lineno}")

    def test_caught_are_own_errors_alone(self):
        own = [node.name for name, node in nodes(ast.ClassDef) if name == "errors.py"]
        for name, node in nodes(ast.ExceptHandler):
            caught = node.type.elts if isinstance(node.type, ast.Tuple) else [node.type]
            for one in caught:
                self.assertIn(one.id, own, f"L19 {name}:{node.lineno}")

    def test_raised_on_the_spot(self):
        own = [node.name for name, node in nodes(ast.ClassDef) if name == "errors.py"]
        for name, node in nodes(ast.Raise):
            if node.exc is not None:
                self.assertIn(called(node.exc), own, f"L19 {name}:{node.lineno}")

    def test_no_loop_changes_what_it_goes_over(self):
        changing = ("append", "clear", "extend", "insert", "pop", "remove", "reverse", "setdefault", "update", "sort")
        for name, loop in nodes(ast.For):
            over = {ast.dump(part) for part in ast.walk(loop.iter) if isinstance(part, (ast.Name, ast.Attribute))}
            for row in loop.body:
                for node in ast.walk(row):
                    if isinstance(node, ast.Call) and isinstance(node.func, ast.Attribute):
                        if node.func.attr in changing:
                            self.assertNotIn(ast.dump(node.func.value), over, f"L23 {name}:{node.lineno}")
                    if isinstance(node, ast.Subscript) and not isinstance(node.ctx, ast.Load):
                        self.assertNotIn(ast.dump(node.value), over, f"L23 {name}:{node.lineno}")

    def test_no_variable_has_an_imports_or_a_classs_name(self):
        for name, tree in trees():
            taken = [alias.name for node in tree.body if isinstance(node, ast.ImportFrom) for alias in node.names]
            taken += [node.name for node in tree.body if isinstance(node, ast.ClassDef)] + BUILTINS
            for node in ast.walk(tree):
                if isinstance(node, ast.arg):
                    self.assertNotIn(node.arg, taken, f"L15 {name}:{node.lineno}")
                if isinstance(node, ast.Name) and isinstance(node.ctx, ast.Store):
                    self.assertNotIn(node.id, taken, f"L15 {name}:{node.lineno}")


def is_builtin(word):
    return hasattr(builtins, word) and not word.startswith("__")


if __name__ == "__main__":
    unittest.main()
